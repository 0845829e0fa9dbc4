import PyProof.Rows.All
import Wide.All
import OpenK.AllK
import Wide.FinOn
import Lean
import PyProof.EqAt
import PyProof.EqKinds
import PyProof.TupleCall
import PySem.Challenge.RW_chairclans_k30_few_turns_for_visits
set_option maxHeartbeats 4000000
set_option maxHeartbeats 4000000
local macro_rules | `(tactic| omega)=>`(tactic| first | lia | omega +splitDisjunctions | (dsimp only;omega +splitDisjunctions))
local macro_rules|`(#[9,$f,$i])=>`($f (i:=$i) $(Lean.mkIdent `S.nd) rfl (by walk_at "o"))|`(#[7])=>`($(Lean.mkIdent `hr.mono) (by decide))|`(#[10])=>`(⟨rfl,rfl,rfl,by decide +kernel,rfl,by decide +kernel,by decide +kernel⟩)
local macro_rules|`(#[0])=>`(by omega)|`(#[1])=>`(by decide)|`(#[2])=>`(by walk_at "o")|`(#[3])=>`(by decide +kernel)|`(#[4])=>`(fun _ _=>rfl)|`(#[5,$x])=>`(some (.sh true (.int $x)))|`(#[6])=>`(by simp;omega)|`(#[8,$x])=>`($x $(Lean.mkIdent `P) $(Lean.mkIdent `w) $(Lean.mkIdent `K) $(Lean.mkIdent `mg) $(Lean.mkIdent `base))
local macro_rules|`(#[11])=>`($(Lean.mkIdent `Value)->$(Lean.mkIdent `Shared)->Prop)
local macro_rules|`(#[12])=>`(($(Lean.mkIdent `model) $(Lean.mkIdent `X.prog) $(Lean.mkIdent `X.w)))
local macro_rules|`(#[13])=>`($(Lean.mkIdent `Inv) $(Lean.mkIdent `X) $(Lean.mkIdent `pins) $(Lean.mkIdent `σ) $(Lean.mkIdent `H) $(Lean.mkIdent `s))
local macro_rules|`(#[14])=>`($(Lean.mkIdent `starEach) ($(Lean.mkIdent `e) ::$(Lean.mkIdent `es)) $(Lean.mkIdent `X.env)=($(Lean.mkIdent `false),$(Lean.mkIdent `eval) $(Lean.mkIdent `e) $(Lean.mkIdent `X.env)) ::$(Lean.mkIdent `starEach) $(Lean.mkIdent `es) $(Lean.mkIdent `X.env))
local macro_rules|`(#[15])=>`($(Lean.mkIdent `Str)->$(Lean.mkIdent `Option) $(Lean.mkIdent `Value))
local macro_rules|`(#[16])=>`(($(Lean.mkIdent `X.comp) $(Lean.mkIdent `scope) ($(Lean.mkIdent `tn)++$(Lean.mkIdent `fn)) $(Lean.mkIdent `s) $(Lean.mkIdent `H) $(Lean.mkIdent `fp) $(Lean.mkIdent `cl)))
local macro_rules|`(#[17])=>`(($(Lean.mkIdent `Addr)×$(Lean.mkIdent `Obj)))
local macro_rules|`(#[18])=>`((($(Lean.mkIdent `zx) ($(Lean.mkIdent `bot) $(Lean.mkIdent `l)) $(Lean.mkIdent `bs)).getD $(Lean.mkIdent `k) (0,0)))
local macro_rules|`(#[19])=>`((.sh $(Lean.mkIdent `false) (.list ($(Lean.mkIdent `rs.map) $(Lean.mkIdent `dRl)))))
local macro_rules|`(#[20])=>`($(Lean.mkIdent `X.fn) $(Lean.mkIdent `x)=$(Lean.mkIdent `true)\/$(Lean.mkIdent `X.env.scope.names.lookup) $(Lean.mkIdent `x)=$(Lean.mkIdent `some) .local)
local macro_rules|`(#[21])=>`(($(Lean.mkIdent `x)==("__debug__" : $(Lean.mkIdent `Str)))=$(Lean.mkIdent `false))
local macro_rules|`(#[22])=>`((($(Lean.mkIdent `V.getD) $(Lean.mkIdent `x.toNat) $(Lean.mkIdent `z4)).1,($(Lean.mkIdent `V.getD) $(Lean.mkIdent `x.toNat) $(Lean.mkIdent `z4)).2.1))
local macro_rules|`(#[23])=>`(($(Lean.mkIdent `List) $(Lean.mkIdent `Int)))
local macro_rules|`(#[24])=>`((.sh $(Lean.mkIdent `false) (.list ($(Lean.mkIdent `V.map) $(Lean.mkIdent `dW)))))
local macro_rules|`(#[25])=>`(($(Lean.mkIdent `nomark) _))
local macro_rules|`(#[26])=>`($(Lean.mkIdent `Fr3) $(Lean.mkIdent `K) $(Lean.mkIdent `H0) $(Lean.mkIdent `G0) $(Lean.mkIdent `ρ) $(Lean.mkIdent `σ) $(Lean.mkIdent `G) $(Lean.mkIdent `H))
local macro_rules|`(#[27])=>`(($(Lean.mkIdent `x)==("__classdict__" : $(Lean.mkIdent `Str)))=$(Lean.mkIdent `false))
local macro_rules|`(#[28])=>`($(Lean.mkIdent `List) $(Lean.mkIdent `Value))
local macro_rules|`(#[29])=>`(($(Lean.mkIdent `zd) ($(Lean.mkIdent `quo) $(Lean.mkIdent `l)) $(Lean.mkIdent `k)))
local macro_rules|`(#[30])=>`((.Call (.Name $(Lean.mkIdent `x) $(Lean.mkIdent `p)) ($(Lean.mkIdent `e) ::$(Lean.mkIdent `es)) [] $(Lean.mkIdent `pos)))
local macro_rules|`(#[31])=>`($(Lean.mkIdent `List) $(Lean.mkIdent `Spell))
local macro_rules|`(#[32])=>`(($(Lean.mkIdent `s.heap.objs.size)+1))
local macro_rules|`(#[33])=>`(($(Lean.mkIdent `List) $(Lean.mkIdent `Key)×$(Lean.mkIdent `D)))
local macro_rules|`(#[34])=>`(($(Lean.mkIdent `zw) $(Lean.mkIdent `zD) $(Lean.mkIdent `rfl) $(Lean.mkIdent `T.n_len) $(Lean.mkIdent `zE) ($(Lean.mkIdent `za) ($(Lean.mkIdent `n3) 0) $(Lean.mkIdent `zb))))
local macro_rules|`(#[35])=>`(($(Lean.mkIdent `zeros) $(Lean.mkIdent `l),[$(Lean.mkIdent `zeros) $(Lean.mkIdent `l)]))
local macro_rules|`(#[36])=>`((.Name $(Lean.mkIdent `x) $(Lean.mkIdent `np)))
local macro_rules|`(#[37])=>`((.sh $(Lean.mkIdent `false) (.list ($(Lean.mkIdent `ch.map) $(Lean.mkIdent `dI)))))
local macro_rules|`(#[38])=>`((.ref $(Lean.mkIdent `s.heap.objs.size)))
local macro_rules|`(#[39])=>`(($(Lean.mkIdent `Rat2)×$(Lean.mkIdent `Rat2)))
local macro_rules|`(#[40])=>`((.list [.list ($(Lean.mkIdent `l.map) $(Lean.mkIdent `dS)),.list ($(Lean.mkIdent `bs.map) $(Lean.mkIdent `dP)),.list ($(Lean.mkIdent `rs.map) $(Lean.mkIdent `dRl))]))
local macro_rules|`(#[41])=>`(($(Lean.mkIdent `false),$(Lean.mkIdent `eval) $(Lean.mkIdent `b) $(Lean.mkIdent `X.env)))
local macro_rules|`(#[42])=>`(($(Lean.mkIdent `false),$(Lean.mkIdent `eval) $(Lean.mkIdent `a) $(Lean.mkIdent `X.env)))
local macro_rules|`(#[43])=>`(($(Lean.mkIdent `ze) ($(Lean.mkIdent `ju) $(Lean.mkIdent `hE) $(Lean.mkIdent `jz) $(Lean.mkIdent `rfl) $(Lean.mkIdent `rfl) $(Lean.mkIdent `T.m_NoSpell) $(Lean.mkIdent `T.e_NoSpell) ($(Lean.mkIdent `za) $(Lean.mkIdent `s3) $(Lean.mkIdent `zb)))))
local macro_rules|`(#[44])=>`($(Lean.mkIdent `Option) $(Lean.mkIdent `L3.Cl))
local macro_rules|`(#[45])=>`(((($(Lean.mkIdent `W.take) $(Lean.mkIdent `k)).flatten++($(Lean.mkIdent `W.getD) $(Lean.mkIdent `k) []).take $(Lean.mkIdent `i)).map $(Lean.mkIdent `dW)))
local macro_rules|`(#[46])=>`(($(Lean.mkIdent `starEach) $(Lean.mkIdent `es) $(Lean.mkIdent `X.env)))
local macro_rules|`(#[47])=>`((show $(Lean.mkIdent `false)=$(Lean.mkIdent `true) from $(Lean.mkIdent `hs)))
local macro_rules|`(#[48])=>`(($(Lean.mkIdent `List) $(Lean.mkIdent `Key)×$(Lean.mkIdent `V)))
local macro_rules|`(#[49])=>`(($(Lean.mkIdent `zO) $(Lean.mkIdent `hr.units)))
local macro_rules|`(#[50])=>`(($(Lean.mkIdent `za) ($(Lean.mkIdent `n3) 1) $(Lean.mkIdent `zb)))
local macro_rules|`(#[51])=>`(($(Lean.mkIdent `row.take) ($(Lean.mkIdent `t)+1)))
local macro_rules|`(#[52])=>`((.sh $(Lean.mkIdent `false) (.list ($(Lean.mkIdent `l.map) $(Lean.mkIdent `dS)))))
local macro_rules|`(#[53])=>`($(Lean.mkIdent `Txt) $(Lean.mkIdent `c) $(Lean.mkIdent `K) $(Lean.mkIdent `mg))
local macro_rules|`(#[54])=>`($(Lean.mkIdent `List) $(Lean.mkIdent `Expr))
local macro_rules|`(#[55])=>`($(Lean.mkIdent `List) $(Lean.mkIdent `Addr))
local macro_rules|`(#[56])=>`(($(Lean.mkIdent `model) $(Lean.mkIdent `prog) $(Lean.mkIdent `w)))
local macro_rules|`(#[57])=>`(($(Lean.mkIdent `Int)×$(Lean.mkIdent `Value)))
local macro_rules|`(#[58])=>`((.sh $(Lean.mkIdent `false) (.list ($(Lean.mkIdent `ns.map) .int))))
local macro_rules|`(#[59])=>`((0,0,0,$(Lean.mkIdent `none)))
local macro_rules|`(#[60])=>`($(Lean.mkIdent `Loc) $(Lean.mkIdent `X.env.scope) $(Lean.mkIdent `x))
local macro_rules|`(#[61])=>`((.sc $(Lean.mkIdent `rfl) (.bl _)))
local macro_rules|`(#[62])=>`((.sc $(Lean.mkIdent `rfl) (.int _)))
local macro_rules|`(#[63])=>`((($(Lean.mkIdent `j) - 1)*$(Lean.mkIdent `b)+$(Lean.mkIdent `r1)+1<=$(Lean.mkIdent `path.getD) $(Lean.mkIdent `t) 0))
local macro_rules|`(#[64])=>`(($(Lean.mkIdent `Gr.refl) $(Lean.mkIdent `s)))
local macro_rules|`(#[65])=>`(($(Lean.mkIdent `starEach) [] $(Lean.mkIdent `X.env)))
local macro_rules|`(#[66])=>`($(Lean.mkIdent `Value)->$(Lean.mkIdent `Value)->$(Lean.mkIdent `Sem) $(Lean.mkIdent `Value))
local macro_rules|`(#[67])=>`(($(Lean.mkIdent `I.ok.hd) $(Lean.mkIdent `hc)))
local macro_rules|`(#[68])=>`(((0,1),(0,1)))
local macro_rules|`(#[69])=>`((.sh $(Lean.mkIdent `false) (.tuple [.int $(Lean.mkIdent `b),.list ($(Lean.mkIdent `qs.map) $(Lean.mkIdent `dI))])))
local macro_rules|`(#[70])=>`((.inl $(Lean.mkIdent `rfl)))
noncomputable section
abbrev Waa:=@PyProof.Rows.F.plain_set_update_loop
abbrev Wab:=@Int.mul_nonpos_of_nonpos_of_nonneg
abbrev Wac:=@PyProof.Rows.slot_tuple_getitem
abbrev Wad:=@Int.gcd_pos_of_ne_zero_right
abbrev Wae:=@PyProof.Rows.callWith_type1
abbrev Waf:=@List.nodup_iff_pairwise_ne
abbrev Wag:=@List.drop_eq_getElem_cons
abbrev Wah:=@List.pairwise_iff_getElem
abbrev Wai:=@Array.getElem?_eq_getElem
abbrev Waj:=@Classical.byContradiction
abbrev Wak:=@List.getElem?_zip_eq_some
abbrev Wal:=@List.mem_or_eq_of_mem_set
abbrev Wam:=@Option.isSome_iff_exists
abbrev Wan:=@List.eq_of_mem_replicate
abbrev Wao:=@List.length_erase_of_mem
abbrev Wap:=@List.filterMap_cons_some
abbrev Waq:=@List.filterMap_cons_none
abbrev War:=@PySem.W.cellsFrom_some
abbrev Was:=@PySem.Heap.get?_update_other
abbrev Wat:=@List.take_of_length_le
abbrev Wau:=@List.range_succ_eq_map
abbrev Wav:=@PySem.SeqAt.canLay_of_shaped
abbrev Waw:=@Array.getElem?_eq_none
abbrev Wax:=@List.pairwise_lt_range
abbrev Waz:=@Int.le_ediv_iff_mul_le
abbrev WaA:=@PySem.Heap.get?_update_self
abbrev WaB:=@List.getElem?_eq_none
abbrev WaC:=@Int.ediv_le_of_le_mul
abbrev WaD:=@PySem.Around.under_plainId
abbrev WaE:=@PySem.mem_of_lookup
abbrev WaF:=@PySem.Heap.SameBut.update
abbrev WaG:=@Nat.lt_of_le_of_lt
abbrev WaH:=@Bool.false_eq_true
abbrev WaI:=@PySem.F.called_set
abbrev WaJ:=@Int.mul_right_comm
abbrev WaK:=@PySem.PyData.tuple.injEq
abbrev WaL:=@Bool.true_eq_false
abbrev WaM:=@Bool.not_eq_true'
abbrev WaN:=@Option.some.injEq
abbrev WaO:=@Nat.lt_succ_of_lt
abbrev WaP:=@List.nodup_append
abbrev WaQ:=@Array.toList_push
abbrev WaR:=@List.pairwise_map
abbrev WaS:=@Int.gcd_dvd_right
abbrev WaT:=@Int.dvd_mul_right
abbrev WaU:=@Int.mul_left_comm
abbrev WaV:=@List.foldl_append
abbrev WaW:=@List.take_add_one
abbrev WaX:=@PySem.PyData.bool.injEq
abbrev WaY:=@PySem.PyData.list.injEq
abbrev WaZ:=@PySem.PassesOwn.leaving
abbrev Wa0:=@List.getElem_inj
abbrev Wa1:=@Nat.lt_succ_self
abbrev Wa2:=@List.length_take
abbrev Wa3:=@List.all_eq_true
abbrev Wa4:=@List.ext_getElem
abbrev Wa5:=@List.not_mem_nil
abbrev Wa6:=@List.any_eq_true
abbrev Wa7:=@Int.gcd_dvd_left
abbrev Wa8:=@PySem.PyData.int.injEq
abbrev Wa9:=@PySem.PyData.str.injEq
abbrev Wba:=@Option.some.inj
abbrev Wbb:=@Bool.eq_iff_iff
abbrev Wbc:=@List.of_mem_zip
abbrev Wbd:=@PySem.W.kia_one
abbrev Wbe:=@Nat.not_lt_zero
abbrev Wbf:=@List.length_zip
abbrev Wbg:=@List.cons.injEq
abbrev Wbh:=@Int.ediv_nonneg
abbrev Wbi:=@List.sum_append
abbrev Wbj:=@PySem.Heap.size_push
abbrev Wbk:=@List.nodup_nil
abbrev Wbl:=@PySem.Paired.length
abbrev Wbm:=@List.mem_cons
abbrev Wbn:=@Bool.or_false
abbrev Wbo:=@Bool.true_and
abbrev Wbp:=@Bool.false_or
abbrev Wbq:=@Bool.and_self
abbrev Wbr:=@Bool.not_true
abbrev Wbs:=@Bool.and_true
abbrev Wbt:=@Int.dvd_trans
abbrev Wbu:=@Int.mul_assoc
abbrev Wbv:=@PySem.W.mg_of
abbrev Wbw:=@Nat.le_of_lt
abbrev Wbx:=@Nat.ne_of_gt
abbrev Wby:=@List.map_nil
abbrev Wbz:=@Nat.lt_trans
abbrev WbA:=@Nat.lt_or_ge
abbrev WbB:=@Int.mul_comm
abbrev WbC:=@Int.zero_add
abbrev WbD:=@Nat.sub_self
abbrev WbE:=@Bool.or_true
abbrev WbF:=@Nat.zero_le
abbrev WbG:=@Int.add_mul
abbrev WbH:=@Int.sub_mul
abbrev WbI:=@Int.one_mul
abbrev WbJ:=@Int.le_refl
abbrev WbK:=@Nat.not_lt
abbrev WbL:=@Nat.mod_lt
abbrev WbM:=@Ne.symm
abbrev Yaa:=@List.mem_append_right
abbrev Yab:=@List.getElem?_append_left
abbrev Yac:=@List.getElem?_set_ne
abbrev Yad:=@List.getElem?_replicate
abbrev Yae:=@List.getElem?_append_right
abbrev Yaf:=@Nat.ne_of_lt
abbrev Yag:=@List.append_assoc
abbrev Yah:=@List.mem_of_getElem?
abbrev Yai:=@List.mem_append_left
abbrev Yaj:=@Array.getD_eq_getD_getElem?
abbrev Yak:=@Bool.and_eq_true
abbrev Yal:=@Bool.false_ne_true
abbrev Yam:=@List.getElem_of_mem
abbrev Yan:=@PySem.Heap.get?_push_size
abbrev Yao:=@List.append_nil
abbrev Yap:=@Nat.lt_irrefl
abbrev Yas:=@List.getElem?_set_self
abbrev Yat:=@List.map_congr_left
abbrev Yaw:=@Int.ediv_mul_cancel
abbrev Yax:=@List.getElem?_range
abbrev Yay:=@Int.natAbs_ediv_le_natAbs
abbrev Yaz:=@List.map_replicate
abbrev YaB:=@List.nodup_cons
abbrev YaC:=@List.pairwise_cons
abbrev YaD:=@List.map_map
abbrev YaF:=@Int.le_of_mul_le_mul_right
abbrev YaG:=@List.length_range
abbrev YaI:=@List.getElem_map
abbrev YaJ:=@Option.map_eq_some_iff
abbrev YaK:=@Int.mul_nonneg
abbrev YaM:=@List.filter_cons
abbrev YaN:=@List.length_set
abbrev YaO:=@List.length_pos_of_mem
abbrev YaP:=@List.getD_eq_getElem?_getD
abbrev YaQ:=@List.getElem?_eq_getElem
abbrev YaR:=@List.length_map
abbrev YaS:=@List.length_append
abbrev YaT:=@List.mem_cons_of_mem
abbrev YaU:=@Nat.lt_of_lt_of_le
abbrev YaV:=@List.mem_cons_self
abbrev YaW:=@PySem.Heap.get?_push_of_some
abbrev YaX:=@PySem.Heap.lt_size
abbrev YaY:=@Nat.le_refl
abbrev YaZ:=@List.size_toArray
abbrev Ya0:=@List.getElem?_map
abbrev Ya1:=@List.map_cons
abbrev Ya2:=@List.map_append
abbrev Ya3:=@List.mem_append
abbrev Ya4:=@List.getElem_mem
abbrev Ya5:=@Nat.le_trans
abbrev Ya6:=@List.mem_singleton
abbrev Ya7:=@List.mem_map
abbrev Ya8:=@List.getElem?_eq_some_iff
abbrev Ya9:=@List.mem_filter
abbrev Yba:=@List.mem_range
abbrev Ybb:=@List.length_replicate
abbrev Ybc:=@Int.emod_nonneg
abbrev Ybd:=@Int.emod_lt_of_pos
abbrev Ybe:=@Int.mul_le_mul_of_nonneg_right
abbrev Ybf:=PySem.W.Frag
section
set_option Elab.async false
set_option linter.all false
set_option maxRecDepth 100000
namespace L2
open PySem PySem.Spec PyProof.Rows
abbrev Key:=Sum Int Str
def J2:Key->Value->Bool
 | .inl k,v=>Value.isInt k v
 | .inr x,v=>Value.isStrOf x v
def keyH(w:World):Key->Int
 | .inl k=>hashInt k
 | .inr x=>hashStr w x
theorem Jc:∀ {k:Key} {v:Value},J2 k v=true->(∃ i t,k=Sum.inl i/\v=Value.int i t)\/(∃ x t,k=Sum.inr x/\v=Value.str x t)
 | .inl i, v, h => by
  obtain⟨t,e⟩:=Value.isInt_shape (k:=i) (v:=v) h;exact .inl ⟨i,t,rfl,e⟩
 | .inr x, v, h => by
  obtain⟨t,e⟩:=Value.isStrOf_shape (x:=x) (v:=v) h;exact .inr ⟨x,t,rfl,e⟩
theorem zlp(i:Int)(t:Tok):J2 (.inl i) (.int i t)=true:=by simp [J2,Value.isInt]
theorem ziM(x:Str)(t:Tok):J2 (.inr x) (.str x t)=true:=by simp [J2,Value.isStrOf]
theorem zjH(a b:Int):decide ((Sum.inl a:Key)=Sum.inl b)=(a==b):=by
 by_cases e:a=b
 . subst e;simp
 . have h:¬(Sum.inl a:Key)=Sum.inl b:=fun q=>e (Sum.inl.inj q)
   rw [decide_eq_false h];exact(beq_eq_false_iff_ne.mpr e).symm
theorem zh2(a b:Str):decide ((Sum.inr a:Key)=Sum.inr b)=decide (a=b):=by
 by_cases e:a=b
 . subst e;simp
 . have h:¬(Sum.inr a:Key)=Sum.inr b:=fun q=>e (Sum.inr.inj q)
   rw [decide_eq_false h,decide_eq_false e]
theorem zmZ(a:Int)(b:Str):decide ((Sum.inl a:Key)=Sum.inr b)=false:=decide_eq_false (fun q=>nomatch q)
theorem zk7(a:Str)(b:Int):decide ((Sum.inr a:Key)=Sum.inl b)=false:=decide_eq_false (fun q=>nomatch q)
def ji(prog:Program)(w:World):PySem.KeyKind prog w Key where
 is:=J2
 hash:=keyH w
 inj:=fun v a b ha hb=>by
  rcases Jc ha with ⟨i,t,rfl,rfl⟩|⟨x,t,rfl,rfl⟩
  . rcases Jc hb with ⟨j,u,rfl,e⟩|⟨y,u,rfl,e⟩
    . injection e with e1 _;rw [e1]
    . exact nomatch e
  . rcases Jc hb with ⟨j,u,rfl,e⟩|⟨y,u,rfl,e⟩
    . exact nomatch e
    . injection e with e1 _;rw [e1]
 byValue:=fun k v h=>by
  rcases Jc h with ⟨i,t,rfl,rfl⟩|⟨x,t,rfl,rfl⟩<;>rfl
 pyHash:=fun hv h=>by
  rcases Jc hv with ⟨i,t,rfl,rfl⟩|⟨x,t,rfl,rfl⟩
  . exact wpAny_pyHash_int h
  . exact wpAny_pyHash_str h
 eqBool:=fun hu hv h=>by
  rcases Jc hu with ⟨i,t,rfl,rfl⟩|⟨x,t,rfl,rfl⟩
  . rcases Jc hv with ⟨j,u,rfl,rfl⟩|⟨y,u,rfl,rfl⟩
    . rw [zjH] at h;exact wpAny_eqBool_int h
    . rw [zmZ] at h;exact SeqAt.EqAt.int_str i t y u _ _ _ _ h
  . rcases Jc hv with ⟨j,u,rfl,rfl⟩|⟨y,u,rfl,rfl⟩
    . rw [zk7] at h;exact SeqAt.EqAt.str_int x t j u _ _ _ _ h
    . rw [zh2] at h;exact wpAny_eqBool_str h
 «strs»:=fun k x t v h=>by
  rcases Jc h with ⟨i,u,rfl,e⟩|⟨y,u,rfl,e⟩
  . exact nomatch e
  . injection e with e1 _
    subst e1;cases v<;>rfl
theorem znA(prog:Program)(w:World)(i:Int)(t:Tok):(ji prog w).is (.inl i) (.int i t)=true:=zlp i t
theorem zkR(prog:Program)(w:World)(x:Str)(t:Tok):(ji prog w).is (.inr x) (.str x t)=true:=ziM x t
inductive V where
 | non|bl (b:Bool)|int (i:Int)|str (x:Str)|byt (b:Array UInt8)|flt (b:UInt64)|ref (a:Addr)|ty (n:String)
 deriving DecidableEq
def RelV:V->Value->Prop
 | .non,u=>u=Value.none
 | .bl b,u=>u=Value.bool b
 | .int i,u=>∃ t,u=Value.int i t
 | .str x,u=>∃ t,u=Value.str x t
 | .byt b,u=>∃ t,u=Value.bytes b t
 | .flt b,u=>∃ t,u=Value.float b t
 | .ref a,u=>u=Value.ref a
 | .ty n,u=>u=Value.type n
abbrev Vals:List V->List Value->Prop:=Paired RelV
theorem Vals.length{xs:List V}{us:#[28]}(r:Vals xs us):xs.length=us.length:=Wbl r
theorem Vals.get:∀ {xs:List V} {us:#[28]} {i:Nat} {x:V},Vals xs us->xs[i]?=some x->∃ u,us[i]?=some u/\RelV x u
 | _,_,_,_,.nil,e=>by simp at e
 | _,_,0,_,.cons r _,e=>by simp at e;subst e;exact⟨_,rfl,r⟩
 | _, _, i + 1, x, .cons _ t, e => by
  obtain⟨u,h1,h2⟩:=Vals.get (i:=i) (x:=x) t (by simpa using e)
  exact⟨u,by simpa using h1,h2⟩
theorem Vals.set{x:V}{u:Value}(r:RelV x u):∀ {xs:List V} {us:#[28]} (i:Nat),Vals xs us->Vals (xs.set i x) (us.set i u)
 | _,_,_,.nil=>.nil
 | _,_,0,.cons _ t=>.cons r t
 | _,_,i+1,.cons q t=>.cons q (Vals.set r i t)
theorem Vals.append:∀ {xs ys:List V} {us ws:#[28]},Vals xs us->Vals ys ws->Vals (xs++ys) (us++ws)
 | _,_,_,_,.nil,s=>s
 | _,_,_,_,.cons r t,s=>.cons r (Vals.append t s)
theorem Vals.take:∀ {xs:List V} {us:#[28]} (n:Nat),Vals xs us->Vals (xs.take n) (us.take n)
 | _,_,0,_=>.nil
 | _,_,_+1,.nil=>.nil
 | _,_,n+1,.cons r t=>.cons r (Vals.take n t)
theorem Vals.drop:∀ {xs:List V} {us:#[28]} (n:Nat),Vals xs us->Vals (xs.drop n) (us.drop n)
 | _,_,0,r=>r
 | _,_,_+1,.nil=>.nil
 | _,_,n+1,.cons _ t=>Vals.drop n t
theorem Vals.none_of:∀ {xs:List V} {us:#[28]} {i:Nat},Vals xs us->xs[i]?=none->us[i]?=none:=fun {xs us i} r e=>by
 have h1:=r.length;have h2:xs.length<=i:=List.getElem?_eq_none_iff.mp e;exact List.getElem?_eq_none_iff.mpr #[0]
def RelO:Option V->Option Value->Prop
 | some v,some u=>RelV v u
 | none,none=>True
 | _,_=>False
def KV{κ : Type}:List (κ×V)->List (κ×Value)->Prop:=Paired fun(p:κ×V) (q:κ×Value)=>p.1=q.1/\RelV p.2 q.2
def kV:Key->V
 | .inl i=>.int i
 | .inr x=>.str x
inductive HO where
 | lst (xs:List V)
 | tup (xs:List V)
 | dK (kvs:List (Key×V))|dT (kvs:List #[48])
 | set (S:Int->Bool) (n:Nat)
 | ins (C dx:Addr) (fs:List (Str×V))
 | own (x:Addr)
 | xd (fs:List (Str×V))
 | met (f x:Addr)
 | rng (lo hi:Int)
 | frz (o:Obj) (u:HO)
 | tbl (ps:Array Value)
 | ext (φ : Heap->Prop)
abbrev Hp:=Addr->Option HO
def upd(H:Hp)(a:Addr)(o:HO):Hp:=fun b=>if b=a then some o else H b
theorem zt{H:Hp}{a:Addr}{o:HO}:upd H a o a=some o:=by unfold upd;rw [if_pos rfl]
theorem zj{H:Hp}{a b:Addr}{o:HO}(h:b≠a):upd H a o b=H b:=by unfold upd;rw [if_neg h]
theorem zmR{H:Hp}{a b:Addr}{o u:HO}(h:H a=some o)(h':H b=some u)(d:o≠u):a≠b:=by
 intro e;subst e;rw [h] at h';exact d (Wba h')
theorem zZ{H:Hp}{a b:Addr}{o:HO}(h:H a=some o)(h':H b=none):a≠b:=by
 intro e;subst e;rw [h] at h';cases h'
section
variable(P:Program)(w:World)
def zK(H:Hp)(h:Heap)(a:Addr):HO->Prop
 | .lst xs=>xs.length<=sizeLine/\∃ (its:#[28]) (n:Nat),Vals xs its/\h.get? a=some { cls:=.type "list", data:=.seq its.toArray n }
 | .tup xs=>xs.length<=sizeLine/\∃ its:List Value,Vals xs its/\IsTup h a its.toArray
 | .dK kvs=>kvs.length<=sizeLine/\(a==sysModules)=false/\∃ vs,KV kvs vs/\h.DictOf (ji P w) a vs
 | .dT kvs => kvs.length <= sizeLine /\ (a == sysModules) = false /\ ∃ xs : List (List Key × Addr × Value),
  Paired (fun(p:List Key×V) (q:List Key×Addr×Value)=>p.1=q.1/\H q.2.1=some (.tup (p.1.map kV))/\RelV p.2 q.2.2) kvs xs/\
  ∃ o es ep,h.get? a=some o/\o.ExactDict/\o.data=.dict es ep/\es.toList=xs.map (entryOfKey (tupleKind (ji P w)))/\(xs.map (·.1)).Nodup
 | .set S n=>h.SetOf (intKind P w) a S n
 | .ins C dx fs => H dx = some (.own a) /\ fs.length <= 1000 /\ dx ≠ a /\ h.get? a = some (PySem.W.instObj C dx) /\
  ∃ mA,h.Ns1 dx mA/\(∀ f,RelO (fs.lookup f) (mA f))/\PySem.Within mA (fs.map (·.1))
 | .own _=>∃ o,h.get? a=some o
 | .xd fs=>∃ mA,h.Ns1 a mA/\∀ f,RelO (fs.lookup f) (mA f)
 | .rng lo hi=>∃ t u v,h.get? a=some { cls:=.type "range", data:=.fields #[.int lo t,.int hi u,.int 1 v] }
 | .frz o u=>h.get? a=some o/\zK H h a u
 | .tbl ps=>h.get? a=some { cls:=.none,data:=.fields ps }
 | .met f x=>h.get? a=some (PySem.W.methodObj (.ref f) (.ref x))
 | .ext φ=>φ h/\(∃ o,h.get? a=some o)/\∀ h1 h2:Heap,φ h1->(∀ o,h1.get? a=some o->h2.get? a=some o)->φ h2
def HOk(H:Hp)(h:Heap):Prop:=∀ a o,H a=some o->zK P w H h a o
end
section
variable{P:Program}{w:World}{H H':Hp}{h h':Heap}{a:Addr}{o:HO}
theorem zK.lt(x:zK P w H h a o):a<h.objs.size:=by
 cases o with
 | lst xs=>obtain⟨_,_,_,_,e⟩:=x;exact YaX e
 | tup xs=>obtain⟨_,_,_,p⟩:=x;exact p.lt
 | dK kvs=>obtain⟨_,_,_,_,o,_,_,e,_⟩:=x;exact YaX e
 | dT kvs=>obtain⟨_,_,_,_,o,_,_,e,_⟩:=x;exact YaX e
 | set S n=>obtain⟨o,_,_,_,e,_⟩:=x;exact YaX e
 | ins C dx fs=>obtain⟨_,_,_,e,_⟩:=x;exact YaX e
 | own y=>obtain⟨_,e⟩:=x;exact YaX e
 | xd fs=>obtain⟨_,⟨_,_,_,e,_⟩,_⟩:=x;exact YaX e
 | rng lo hi=>obtain⟨_,_,_,e⟩:=x;exact YaX e
 | frz ob u=>obtain⟨e,_⟩:=x;exact YaX e
 | tbl ps=>exact YaX (show h.get? a=some _ from x)
 | met f y=>exact YaX (show h.get? a=some _ from x)
 | ext φ=>obtain⟨_,⟨_,e⟩,_⟩:=x;exact YaX e
theorem Paired.mapP{α β : Type}{F G:α->β->Prop}:∀ {l₁ : List α} {l₂ : List β},Paired F l₁ l₂->(∀ a b,F a b->G a b)->Paired G l₁ l₂
 | _,_,.nil,_=>.nil
 | _,_,.cons r t,f=>.cons (f _ _ r) (Paired.mapP t f)
theorem zK.stay(x:zK P w H h a o)(k:∀ b u,(b=a\/H b=some (.own a))->h.get? b=some u->h'.get? b=some u)
 (ho:∀ b,H b=some (.own a)->H' b=some (.own a)) (ht:∀ b xs,H b=some (.tup xs)->H' b=some (.tup xs)):zK P w H' h' a o:=by
 induction o with
 | lst xs=>obtain⟨z,its,n,r,e⟩:=x;exact⟨z,its,n,r,k _ _ #[70] e⟩
 | tup xs=>obtain⟨z,its,r,ob,e,c⟩:=x;exact⟨z,its,r,ob,k _ _ #[70] e,c⟩
 | dK kvs=>obtain⟨z,y,vs,r,ob,es,ep,e,c⟩:=x;exact⟨z,y,vs,r,ob,es,ep,k _ _ #[70] e,c⟩
 | dT kvs=>
  obtain⟨z,y,xs,r,ob,es,ep,e,c⟩:=x;exact⟨z,y,xs,Paired.mapP r fun p q z=>⟨z.1,ht _ _ z.2.1,z.2.2⟩,ob,es,ep,k _ _ #[70] e,c⟩
 | set S n=>obtain⟨ob,es,ep,t,e,c⟩:=x;exact⟨ob,es,ep,t,k _ _ #[70] e,c⟩
 | ins C dx fs=>
  obtain⟨d,z,ne,e,mA,⟨od,es,ep,e2,c⟩,r⟩:=x;exact⟨ho _ d,z,ne,k _ _ #[70] e,mA,⟨od,es,ep,k _ _ (.inr d) e2,c⟩,r⟩
 | own y=>obtain⟨ob,e⟩:=x;exact⟨ob,k _ _ #[70] e⟩
 | xd fs=>obtain⟨mA,⟨od,es,ep,e,c⟩,r⟩:=x;exact⟨mA,⟨od,es,ep,k _ _ #[70] e,c⟩,r⟩
 | rng lo hi=>obtain⟨t,u,v,e⟩:=x;exact⟨t,u,v,k _ _ #[70] e⟩
 | frz ob u ih=>obtain⟨e,q⟩:=x;exact⟨k _ _ #[70] e,ih q⟩
 | tbl ps=>
  have e:h.get? a=some { cls:=.none,data:=.fields ps }:=x;show h'.get? a=some { cls:=.none,data:=.fields ps };exact k a _ #[70] e
 | met f y=>
  have e:h.get? a=some (PySem.W.methodObj (.ref f) (.ref y)):=x;show h'.get? a=some (PySem.W.methodObj (.ref f) (.ref y));exact k a _ #[70] e
 | ext φ=>obtain⟨p,⟨o,e⟩,st⟩:=x;exact⟨st _ _ p fun o q=>k _ _ #[70] q,⟨o,k _ _ #[70] e⟩,st⟩
theorem HOk.lt(x:HOk P w H h)(e:H a=some o):a<h.objs.size:=(x a o e).lt
theorem HOk.fresh(x:HOk P w H h)(e:h.objs.size<=a):H a=none:=by
 cases q:H a with
 | none=>rfl
 | some u=>exact absurd (YaU (x.lt q) e) (Yap _)
theorem HOk.kept(x:HOk P w H h)(k:∀ b u,h.get? b=some u->h'.get? b=some u):HOk P w H h':=fun a o e=>
 (x a o e).stay (fun b u _ q=>k b u q) (fun _ q=>q) fun _ _ q=>q
theorem HOk.laid(x:HOk P w H h)(k:∀ b u,h.get? b=some u->h'.get? b=some u)(hp:h.objs.size<=a)(new:zK P w (upd H a o) h' a o):HOk P w (upd H a o) h':=fun b u e=>by
 have hn:=x.fresh hp
 by_cases hb:b=a
 . subst hb;rw [zt] at e;cases e;exact new
 . rw [zj hb] at e
   exact(x b u e).stay (fun c v _ q=>k c v q) (fun c q=>by rw [zj (zZ q hn)];exact q) fun c xs q=>by rw [zj (zZ q hn)];exact q
end
def Rd(H:Hp)(a:Addr)(u:HO):Prop:=H a=some u\/∃ o,H a=some (.frz o u)
theorem Rd.of{H:Hp}{a:Addr}{u:HO}(h:H a=some u):Rd H a u:=.inl h
theorem Rd.ok{P:Program}{w:World}{H:Hp}{h:Heap}{a:Addr}{u:HO}(r:Rd H a u)(x:HOk P w H h):zK P w H h a u:=by
 rcases r with r|⟨o,r⟩
 . exact x a u r
 . obtain⟨_,q⟩:=x a _ r
   exact q
def Mut:Option HO->Prop
 | some (.lst _)=>True
 | some (.dK _)=>True
 | some (.dT _)=>True
 | some (.set _ _)=>True
 | some (.ins _ _ _)=>True
 | some (.ext _)=>True
 | _=>False
section
variable{P:Program}{w:World}{H:Hp}{h h':Heap}{x e:Addr}{o':HO}
theorem HOk.write(ok:HOk P w H h)(mu:Mut (H x))(he:e=x\/H e=some (.own x))(k:∀ b u,b≠e->h.get? b=some u->h'.get? b=some u)(heo:∃ u,h'.get? e=some u)
 (new:zK P w (upd H x o') h' x o'):HOk P w (upd H x o') h':=fun b u q=>by
 have nown:∀ c y,H c=some (.own y)->c≠x:=fun c y r z=>by subst z;rw [r] at mu;exact mu
 have ntup:∀ c xs,H c=some (.tup xs)->c≠x:=fun c xs r z=>by subst z;rw [r] at mu;exact mu
 by_cases hb:b=x
 . subst hb;rw [zt] at q;cases q;exact new
 . rw [zj hb] at q
   by_cases hbe:b=e
   . have q':H b=some (.own x):=by
      rcases he with z|z
      . exact absurd (hbe.trans z) hb
      . rw [hbe];exact z
     rw [q] at q';cases q';obtain⟨v,hv⟩:=heo;exact⟨v,by rw [hbe];exact hv⟩
   . refine(ok b u q).stay (fun c v hc r=>k c v ?_ r) (fun c r=>by rw [zj (nown c b r)];exact r) fun c xs r=>by rw [zj (ntup c xs r)];exact r
     rcases hc with rfl|hc
     . exact hbe
     . rintro rfl
       rcases he with z|z
       . exact nown c b hc z
       . rw [hc] at z;cases z;exact hb rfl
end
structure Un(fs ex:#[55])(H H':Hp)(h h':Heap):Prop where
 keep:∀ b o,h.get? b=some o->H b=none->b∉fs->b∉ex->h'.get? b=some o
 slot:∀ b o,h.get? b=some o->H b=none->b∈fs->b∉ex->∃ sl,h'.get? b=some { o with slots:=sl }
 free:∀ b o,h.get? b=some o->H b=none->b∉ex->H' b=none
 there:∀ b o,h.get? b=some o->b∉ex->∃ o',h'.get? b=some o'
 tups:∀ b xs,H b=some (.tup xs)->H' b=some (.tup xs)
 frzs:∀ b o u,H b=some (.frz o u)->H' b=some (.frz o u)
 tbls:∀ b ps,H b=some (.tbl ps)->∃ more,H' b=some (.tbl (ps++more))
section
variable{fs fs' ex ex':#[55]}{H H1 H2:Hp}{h h1 h2 h':Heap}{a x e:Addr}{o:HO}
theorem Un.any(u:Un fs ex H H1 h h1){b:Addr}{ob:Obj}(q:h.get? b=some ob)(n:H b=none)(hx:b∉ex):∃ sl,h1.get? b=some { ob with slots:=sl }:=by
 by_cases hb:b∈fs
 . exact u.slot b ob q n hb hx
 . exact⟨ob.slots,u.keep b ob q n hb hx⟩
theorem Un.trans(a:Un fs ex H H1 h h1)(b:Un fs ex H1 H2 h1 h2):Un fs ex H H2 h h2 where
 keep:=fun c ob q n hc hx=>b.keep c ob (a.keep c ob q n hc hx) (a.free c ob q n hx) hc hx
 slot:=fun c ob q n hc hx=>by
  obtain⟨sl,e1⟩:=a.slot c ob q n hc hx;obtain⟨sl',e2⟩:=b.slot c _ e1 (a.free c ob q n hx) hc hx;exact⟨sl',e2⟩
 free:=fun c ob q n hx=>by
  obtain⟨o',e1⟩:=a.there c ob q hx;exact b.free c o' e1 (a.free c ob q n hx) hx
 there:=fun c ob q hx=>by
  obtain⟨o',e1⟩:=a.there c ob q hx;exact b.there c o' e1 hx
 tups:=fun c xs q=>b.tups c xs (a.tups c xs q)
 frzs:=fun c ob xs q=>b.frzs c ob xs (a.frzs c ob xs q)
 tbls:=fun c ps q=>by
  obtain⟨m1,e1⟩:=a.tbls c ps q;obtain⟨m2,e2⟩:=b.tbls c _ e1;exact⟨m1++m2,by rw [e2,Array.append_assoc]⟩
theorem Un.kept(k:∀ b u,h.get? b=some u->h'.get? b=some u):Un fs ex H H h h':=
 ⟨fun b ob q _ _ _=>k b ob q,fun b ob q _ _ _=>⟨ob.slots,k b ob q⟩,fun _ _ _ n _=>n,fun b ob q _=>⟨ob,k b ob q⟩,fun _ _ q=>q,fun _ _ _ q=>q,fun _ ps q=>⟨#[],by rw [q];simp⟩⟩
theorem Un.refl:Un fs ex H H h h:=Un.kept fun _ _ q=>q
theorem Un.laid(k:∀ b u,h.get? b=some u->h'.get? b=some u)(hp:h.objs.size<=a)(hn:H a=none):Un fs ex H (upd H a o) h h' where
 keep:=fun b u q _ _ _=>k b u q
 slot:=fun b u q _ _ _=>⟨u.slots,k b u q⟩
 free:=fun b u q n _=>by rw [zj (Yaf (YaU (YaX q) hp))];exact n
 there:=fun b u q _=>⟨u,k b u q⟩
 tups:=fun b xs q=>by rw [zj (zZ q hn)];exact q
 frzs:=fun b u xs q=>by rw [zj (zZ q hn)];exact q
 tbls:=fun b ps q=>⟨#[],by rw [zj (zZ q hn),q];simp⟩
theorem Un.write(mu:Mut (H x))(he:e=x\/H e=some (.own x))(k:∀ b u,b≠e->h.get? b=some u->h'.get? b=some u)(heo:∃ u,h'.get? e=some u):Un fs ex H (upd H x o) h h':=by
 have hx:∀ b,H b=none->b≠x:=fun b n z=>by subst z;rw [n] at mu;exact mu
 have hb:∀ b,H b=none->b≠e:=fun b n z=>by
  subst z
  rcases he with r|r
  . exact hx b n r
  . rw [n] at r;cases r
 have hm:∀ b u,H b=some u->¬Mut (some u)->b≠x:=fun b u q nm z=>by subst z;rw [q] at mu;exact nm mu
 refine⟨fun b u q n _ _=>k b u (hb b n) q,fun b u q n _ _=>⟨u.slots,k b u (hb b n) q⟩,fun b u q n _=>by rw [zj (hx b n)];exact n,fun b u q _=>?_,
  fun b xs q=>by rw [zj (hm b _ q fun z=>z)];exact q,fun b u xs q=>by rw [zj (hm b _ q fun z=>z)];exact q,fun b ps q=>⟨#[],by rw [zj (hm b _ q fun z=>z),q];simp⟩⟩
 by_cases hbe:b=e
 . subst hbe;exact heo
 . exact⟨u,k b u hbe q⟩
theorem Un.mono(u:Un fs ex H H1 h h1)(hs:∀ b∈fs,b∈fs')(hx:∀ b∈ex,b∈ex'):Un fs' ex' H H1 h h1:=
 ⟨fun b ob q n hb he=>u.keep b ob q n (fun z=>hb (hs b z)) fun z=>he (hx b z),fun _ _ q n _ he=>u.any q n fun z=>he (hx _ z),fun b ob q n he=>u.free b ob q n fun z=>he (hx b z),fun b ob q he=>u.there b ob q fun z=>he (hx b z),u.tups,u.frzs,u.tbls⟩
end
def trk(h:Heap)(H:Hp):List Addr:=(List.range h.objs.size).filter fun a=>(H a).isSome
def hidT(h:Heap)(H:Hp):Heap:=PySem.W.hideAll h (trk h H)
theorem zkn(h:Heap)(H:Hp):(hidT h H).objs.size=h.objs.size:=PySem.W.hideAll_size _ _
theorem zif{h:Heap}{H:Hp}{b:Addr}{o:Obj}(e:h.get? b=some o)(n:H b=none):(hidT h H).get? b=some o:=
 PySem.W.hideAll_get _ e fun hm=>by
  have q:(H b).isSome=true:=(Ya9.mp hm).2;rw [n] at q;simp at q
theorem zlD{h:Heap}{H:Hp}{b:Addr}{o:Obj}(e:(hidT h H).get? b=some o):h.get? b=some o/\H b=none:=by
 have e':h.get? b=some o:=PySem.W.of_hideAll (trk h H) e;refine⟨e',?_⟩;cases q:H b with
 | none=>rfl
 | some x=>
  have hm:b∈trk h H:=Ya9.mpr ⟨Yba.mpr (YaX e'),by simp [q]⟩
  have z:(hidT h H).get? b=none:=PySem.W.hideAll_none (trk h H) hm;rw [z] at e;cases e
def zlC(g h:Heap)(L:Addr):List #[17]:=(List.range h.objs.size).filterMap fun a=>if a=L\/(g.get? a).isSome=true then none else(h.get? a).map fun o=>(a,o)
def rest(g h:Heap)(L d:Addr):List #[17]:=(zlC g h L).filter fun p=>decide (p.1≠d)
structure Mod(K:Ybf)(mg:#[15])(base:Heap):Prop where
 kin:K.In base
 glob:base.Ns mainGlobals mg
 blt:∃ mb,base.Ns builtinsNs mb/\∀ x:Str,x≠"__name__"->mb x=bootBuiltins x
 nolimit:base.NoLimit
structure Cx where
 prog:Program
 w:World
 K:Ybf
 mg:Str->Option Value
 base:Heap
 A:Around
 N:List Str
 s₀ : Shared
 H₀ : Hp
 env:Env
 outer:List Env
 stack:List Env
 ex:List Addr
 fn:Str->Bool
 calm:Bool
 pn:List #[17]
 xe:Value->Shared->Prop
def frs(l:List Env):List Addr:=l.filterMap (·.frame)
abbrev Cx.fs(X:Cx):List Addr:=frs X.outer
def Vis(sc:Scope)(x:Str):Prop:=sc.names.lookup x=some .local\/sc.names.lookup x=some .cell\/sc.names.lookup x=some .free
def Loc(sc:Scope)(x:Str):Prop:=sc.names.lookup x=some .local\/sc.names.lookup x=some .cell
def Look(env:Env)(h:Heap)(m:#[15])(x:Str)(u:Value):Prop:=
 (env.kindOf x=some .local/\m x=some u)\/((env.kindOf x=some .cell\/env.kindOf x=some .free)/\∃ c,env.cells.lookup x=some c/\h.IsCell c (some u))
structure Cx.Ok(X:Cx):Prop where
 mod:Mod X.K X.mg X.base
 kind:X.env.scope.kind=.function
 glob:X.env.globals=mainGlobals
 blt:X.env.builtins=builtinsNs
 above:X.s₀.heap.objs.size<=X.env.locals
 inj:∀ x y c,X.env.cells.lookup x=some c->X.env.cells.lookup y=some c->x=y
 has:∀ x,(X.env.kindOf x=some .cell\/X.env.kindOf x=some .free)->∃ c,X.env.cells.lookup x=some c
 cab:∀ x c,X.fn x=true->X.env.cells.lookup x=some c->X.s₀.heap.objs.size<=c
 hd:X.calm=true->X.A.handled=none
 frames:X.A.frames=some X.stack
 stk:X.stack=X.outer\/(X.stack=X.env::X.outer/\X.env.frame=some X.env.locals)
 exf:∀ b∈X.ex,b≠X.env.locals/\∀ x c,X.env.cells.lookup x=some c->c≠b
 bs:∀ b o,X.base.get? b=some o->X.s₀.heap.get? b=some o/\X.H₀ b=none
 bsz:X.base.objs.size<=X.s₀.heap.objs.size
 noex:∀ b o,X.base.get? b=some o->b∉X.ex
 exfs:∀ b∈X.ex,b∉X.fs
 funs:X.s₀.heap.FunFrames X.base X.outer
 frf:∀ b∈X.fs,X.H₀ b=none
structure Inv(X:Cx)(pins:List #[17])(σ : List (Option V))(H:Hp)(s:Shared):Prop where
 ok:X.Ok
 os:s.os=X.s₀.os
 bare:AllBare s.gens
 base:Un X.fs X.ex X.H₀ H X.s₀.heap s.heap
 loc:∃ m,s.heap.Ns X.env.locals m/\∀ (i:Nat) (x:Str) (v:V),X.N[i]?=some x->σ[i]?=some (some v)->Vis X.env.scope x->∃ u,RelV v u/\Look X.env s.heap m x u
 cell:∀ x c,X.env.cells.lookup x=some c->∃ v,s.heap.IsCell c v
 free:H X.env.locals=none
 freeC:∀ x c,X.env.cells.lookup x=some c->H c=none
 pin:∀ p∈X.pn++pins,s.heap.get? p.1=some p.2/\H p.1=none/\p.1≠X.env.locals/\p.1∉X.fs/\∀ v,p.2.data≠.cell v
 hok:HOk X.prog X.w H s.heap
 len:σ.length=X.N.length
section
variable{X:Cx}{pins:List #[17]}{σ : List (Option V)}{H H':Hp}{s:Shared}{h':Heap}
theorem Cx.Ok.nofr(ok:X.Ok){b:Addr}{o:Obj}(e:X.base.get? b=some o):b∉X.fs:=fun hb=>by
 have:=(ok.funs.mem hb).1;rw [e] at this;cases this
theorem Inv.bs(I:#[13]):∀ b o,X.base.get? b=some o->s.heap.get? b=some o/\H b=none:=fun b o e=>
 ⟨I.base.keep b o (I.ok.bs b o e).1 (I.ok.bs b o e).2 (I.ok.nofr e) (I.ok.noex b o e),I.base.free b o (I.ok.bs b o e).1 (I.ok.bs b o e).2 (I.ok.noex b o e)⟩
theorem Inv.bk(I:#[13]):∀ b o,X.base.get? b=some o->s.heap.get? b=some o:=fun b o e=>(I.bs b o e).1
theorem Inv.mod(I:#[13]):Mod X.K X.mg X.base:=I.ok.mod
theorem Inv.kIn(I:#[13]):X.K.In s.heap:=I.ok.mod.kin.keeps I.bk
theorem Inv.nolimit(I:#[13]):s.heap.NoLimit:=I.ok.mod.nolimit.keeps I.bk
theorem Inv.fr(I:#[13]):∃ m,Fr X.base X.env.locals s.heap m:=
 let ⟨m,hn,_⟩:=I.loc
 ⟨m,hn,I.bk,Ya5 I.ok.bsz I.ok.above⟩
theorem Inv.lt(I:#[13]):X.env.locals<s.heap.objs.size:=let ⟨_,hn,_⟩:=I.loc;hn.lt
theorem Inv.sz(I:#[13]):X.s₀.heap.objs.size<=s.heap.objs.size:=Ya5 I.ok.above (Wbw I.lt)
theorem Inv.nofs(I:#[13]){a:Addr}(h:s.heap.objs.size<=a):a∉X.fs:=fun hb=>by
 obtain⟨_,o,ho,_⟩:=I.ok.funs.mem hb;exact absurd (YaU (YaX ho) (Ya5 I.sz h)) (Yap _)
theorem Inv.cne(I:#[13]):∀ x c,X.env.cells.lookup x=some c->c≠X.env.locals:=fun x c e z=>by
 obtain⟨v,o,ho,hd⟩:=I.cell x c e;obtain⟨m,⟨o',es,ep,ho',hd',_⟩,_⟩:=I.loc;rw [z,ho'] at ho;cases ho;rw [hd'] at hd;cases hd
theorem Inv.funs(I:#[13]):s.heap.FunFrames X.base X.outer:=by
 have all:∀ (l:List Env),(∀ b∈frs l,b∈X.fs)->X.s₀.heap.FunFrames X.base l->s.heap.FunFrames X.base l:=by
  intro l
  induction l with
  | nil=>intro _ _;trivial
  | cons env r ih=>
   intro hs hl;obtain⟨hk,⟨L,o,hf,hn,ho,hd⟩,hr⟩:=hl;have hL:L∈X.fs:=hs L (by unfold frs;rw [List.filterMap_cons,hf];exact YaV)
   obtain⟨sl,e⟩:=I.base.slot L o ho (I.ok.frf L hL) hL fun z=>I.ok.exfs L z hL
   exact⟨hk,⟨L,_,hf,hn,e,hd⟩,ih (fun b hb=>hs b (by unfold frs;rw [List.filterMap_cons,hf];exact YaT _ hb)) hr⟩
 exact all X.outer (fun _ hb=>hb) I.ok.funs
theorem Inv.stack(I:#[13]):s.heap.FunFrames X.base X.stack:=by
 rcases I.ok.stk with e|⟨e,hf⟩
 . rw [e];exact I.funs
 . rw [e]
   obtain⟨m,hn,_⟩:=I.loc;refine .cons (by rw [I.ok.kind];decide) hf hn ?_ I.funs
   exact Heap.get?_none_of_le (Ya5 I.ok.bsz I.ok.above)
theorem Inv.stkSub(I:#[13]):∀ b∈frs X.stack,b∈X.env.locals::X.fs:=fun b hb=>by
 rcases I.ok.stk with e|⟨e,hf⟩
 . rw [e] at hb;exact YaT _ hb
 . rw [e] at hb
   unfold frs at hb;rw [List.filterMap_cons,hf] at hb;exact hb
theorem Inv.stkFree(I:#[13]):∀ b∈frs X.stack,H b=none:=fun b hb=>by
 rcases Wbm.mp (I.stkSub b hb) with e|hb
 . rw [e];exact I.free
 . obtain⟨_,o,ho,_⟩:=I.ok.funs.mem hb
   exact I.base.free b o ho (I.ok.frf b hb) fun z=>I.ok.exfs b z hb
theorem Inv.step{g':Array GenState}{t':Nat}{d':Drawn}{ch:#[55]}(I:#[13])
 (hch:∀ b∈ch,(b∈X.ex\/X.s₀.heap.objs.size<=b)/\b≠X.env.locals/\(∀ x c,X.env.cells.lookup x=some c->c≠b)/\∀ p∈X.pn++pins,p.1≠b)
 (keep:∀ b o,b≠X.env.locals->b∉X.fs->b∉ch->s.heap.get? b=some o->H b=none->h'.get? b=some o)
 (slot:∀ b o,b≠X.env.locals->b∈X.fs->b∉ch->s.heap.get? b=some o->H b=none->∃ sl,h'.get? b=some { o with slots:=sl }) (free:∀ b o,b∉ch->s.heap.get? b=some o->H b=none->H' b=none)
 (there:∀ b o,b∉ch->s.heap.get? b=some o->∃ o',h'.get? b=some o')
 (tups:∀ b xs,H b=some (.tup xs)->H' b=some (.tup xs)) (frzs:∀ b o u,H b=some (.frz o u)->H' b=some (.frz o u)) (tbls:∀ b ps,H b=some (.tbl ps)->∃ more,H' b=some (.tbl (ps++more)))
 (ns:∀ m,s.heap.Ns X.env.locals m->h'.Ns X.env.locals m) (hok:HOk X.prog X.w H' h') (hg:AllBare g') :
 Inv X pins σ H' { s with heap:=h',gens:=g',drawn:=d',toks:=t' }:=by
 have neL:∀ b o,X.s₀.heap.get? b=some o->b≠X.env.locals:=fun b o e=>Yaf (YaU (YaX e) I.ok.above)
 have neC:∀ b o,X.s₀.heap.get? b=some o->b∉X.ex->b∉ch:=fun b o e hx hb=>by
  rcases(hch b hb).1 with z|z
  . exact hx z
  . exact absurd (YaU (YaX e) z) (Yap _)
 have cellK:∀ x c,X.env.cells.lookup x=some c->∀ v,s.heap.IsCell c v->h'.IsCell c v:=fun x c e v ⟨o,ho,hd⟩=>by
  have nch:c∉ch:=fun z=>(hch c z).2.2.1 x c e rfl
  by_cases hc:c∈X.fs
  . obtain⟨sl,q⟩:=slot c o (I.cne x c e) hc nch ho (I.freeC x c e)
    exact⟨_,q,hd⟩
  . exact⟨o,keep c o (I.cne x c e) hc nch ho (I.freeC x c e),hd⟩
 refine⟨I.ok,I.os,hg,⟨fun b o e n hb hx=>?_,fun b o e n hb hx=>?_,fun b o e n hx=>?_,fun b o e hx=>?_,fun b xs e=>tups b xs (I.base.tups b xs e),fun b o xs e=>frzs b o xs (I.base.frzs b o xs e),fun b ps e=>?_⟩,?_,fun x c e=>?_,?_,fun x c e=>?_,fun p hp=>?_,hok,I.len⟩
 . exact keep b o (neL b o e) hb (neC b o e hx) (I.base.keep b o e n hb hx) (I.base.free b o e n hx)
 . obtain⟨sl,e1⟩:=I.base.slot b o e n hb hx
   obtain⟨sl',e2⟩:=slot b _ (neL b o e) hb (neC b o e hx) e1 (I.base.free b o e n hx);exact⟨sl',e2⟩
 . obtain⟨o',e1⟩:=I.base.there b o e hx
   exact free b o' (neC b o e hx) e1 (I.base.free b o e n hx)
 . obtain⟨o',e1⟩:=I.base.there b o e hx
   exact there b o' (neC b o e hx) e1
 . obtain⟨m1,e1⟩:=I.base.tbls b ps e
   obtain⟨m2,e2⟩:=tbls b _ e1;exact⟨m1++m2,by rw [e2,Array.append_assoc]⟩
 . obtain⟨m,hn,hl⟩:=I.loc
   refine⟨m,ns m hn,fun i x v e1 e2 e3=>?_⟩
   obtain⟨u,r,l⟩:=hl i x v e1 e2 e3;refine⟨u,r,?_⟩
   rcases l with l|⟨k,c,e,z⟩
   . exact .inl l
   . exact .inr ⟨k,c,e,cellK x c e _ z⟩
 . obtain⟨v,z⟩:=I.cell x c e
   exact⟨v,cellK x c e v z⟩
 . obtain⟨m,⟨o,_,_,ho,_⟩,_⟩:=I.loc
   exact free _ o (fun z=>(hch _ z).2.1 rfl) ho I.free
 . obtain⟨v,o,ho,hd⟩:=I.cell x c e
   exact free c o (fun z=>(hch c z).2.2.1 x c e rfl) ho (I.freeC x c e)
 . obtain⟨e,n,ne,nf,d⟩:=I.pin p hp
   have nch:p.1∉ch:=fun z=>(hch p.1 z).2.2.2 p hp rfl
   exact⟨keep p.1 p.2 ne nf nch e n,free p.1 p.2 nch e n,ne,nf,d⟩
theorem Inv.un{t':Nat}(I:#[13])(u:Un X.fs [] H H' s.heap h')(hok:HOk X.prog X.w H' h'):Inv X pins σ H' { s with heap:=h',toks:=t' }:=by
 obtain⟨m,⟨o,es,ep,ho,r⟩,_⟩:=id I.loc;obtain⟨sl,hL⟩:=u.any ho I.free (by simp)
 exact I.step (g':=s.gens) (d':=s.drawn) (ch:=[]) (fun _ z=>nomatch z) (fun b o _ hb _ e n=>u.keep b o e n hb (by simp)) (fun b o _ hb _ e n=>u.slot b o e n hb (by simp)) (fun b o _ e n=>u.free b o e n (by simp)) (fun b o _ e=>u.there b o e (by simp)) u.tups u.frzs u.tbls (fun m' hm=>by
  obtain⟨o',es',ep',ho',r'⟩:=hm;rw [ho] at ho';cases ho';exact⟨_,es',ep',hL,r'⟩) hok I.bare
theorem Inv.call{g':Array GenState}{t':Nat}{d':Drawn}{ch:#[55]}(I:#[13])(u:Un (frs X.stack) ch H H' s.heap h')(hok:HOk X.prog X.w H' h')(hg:AllBare g')
 (hch:∀ b∈ch,(b∈X.ex\/X.s₀.heap.objs.size<=b)/\b≠X.env.locals/\(∀ x c,X.env.cells.lookup x=some c->c≠b)/\∀ p∈X.pn++pins,p.1≠b) :
 Inv X pins σ H' { s with heap:=h',gens:=g',drawn:=d',toks:=t' }:=by
 obtain⟨m,⟨o,es,ep,ho,r⟩,_⟩:=id I.loc;obtain⟨sl,hL⟩:=u.any ho I.free fun z=>(hch _ z).2.1 rfl
 exact I.step (ch:=ch) hch (fun b o hL hb hc e n=>u.keep b o e n (fun z=>(Wbm.mp (I.stkSub b z)).elim hL hb) hc) (fun b o _ _ hc e n=>u.any e n hc) (fun b o hc e n=>u.free b o e n hc) (fun b o hc e=>u.there b o e hc) u.tups u.frzs u.tbls (fun m' hm=>by
  obtain⟨o',es',ep',ho',r'⟩:=hm;rw [ho] at ho';cases ho';exact⟨_,es',ep',hL,r'⟩) hok hg
theorem Inv.turned{t':Nat}{it:Addr}(I:#[13])(k:∀ b o,b≠it->s.heap.get? b=some o->h'.get? b=some o)(hn:H it=none)(hL:it≠X.env.locals)
 (h1:it∈X.ex\/X.s₀.heap.objs.size<=it) (h2:∀ x c,X.env.cells.lookup x=some c->c≠it) (h3:∀ p∈X.pn++pins,p.1≠it):Inv X pins σ H { s with heap:=h',toks:=t' }:=by
 have nit:∀ b u,H b=some u->b≠it:=fun b u e z=>by rw [z,hn] at e;cases e
 refine I.step (g':=s.gens) (d':=s.drawn) (ch:=[it]) (fun b hb=>?_) (fun b o _ _ hc e _=>k b o (fun z=>hc (by simp [z])) e) (fun b o _ _ hc e _=>⟨o.slots,k b o (fun z=>hc (by simp [z])) e⟩) (fun _ _ _ _ n=>n)
  (fun b o hc e=>⟨o,k b o (fun z=>hc (by simp [z])) e⟩) (fun _ _ e=>e) (fun _ _ _ e=>e) (fun b ps e=>⟨#[],by rw [e];simp⟩) (fun m hm=>?_) (fun b u e=>?_) I.bare
 . have e:b=it:=by simpa using hb
   subst e;exact⟨h1,hL,h2,h3⟩
 . obtain⟨o,es,ep,ho,r⟩:=hm
   exact⟨o,es,ep,k _ o (WbM hL) ho,r⟩
 . refine(I.hok b u e).stay (fun c v hc q=>k c v ?_ q) (fun _ q=>q) fun _ _ q=>q
   rcases hc with z|z
   . rw [z];exact nit b u e
   . exact nit c _ z
theorem Inv.tok(I:#[13])(t:Nat):Inv X pins σ H { s with toks:=t }:=I.un (h':=s.heap) (t':=t) Un.refl I.hok
theorem Inv.kept{t':Nat}(I:#[13])(k:∀ b u,s.heap.get? b=some u->h'.get? b=some u):Inv X pins σ H { s with heap:=h',toks:=t' }:=I.un (Un.kept k) (I.hok.kept k)
theorem Inv.laid{a:Addr}{o:HO}{t':Nat}(I:#[13])(k:∀ b u,s.heap.get? b=some u->h'.get? b=some u)(hp:s.heap.objs.size<=a)(new:zK X.prog X.w (upd H a o) h' a o) :
 Inv X pins σ (upd H a o) { s with heap:=h',toks:=t' }:=I.un (Un.laid k hp (I.hok.fresh hp)) (I.hok.laid k hp new)
theorem Inv.write{x e:Addr}{o:HO}{t':Nat}(I:#[13])(mu:Mut (H x))(he:e=x\/H e=some (.own x))(k:∀ b u,b≠e->s.heap.get? b=some u->h'.get? b=some u)(heo:∃ u,h'.get? e=some u)
 (new:zK X.prog X.w (upd H x o) h' x o):Inv X pins σ (upd H x o) { s with heap:=h',toks:=t' }:=I.un (Un.write mu he k heo) (I.hok.write mu he k heo new)
theorem Inv.pins_of{pins':List #[17]}(I:#[13])(h:∀ p∈pins',s.heap.get? p.1=some p.2/\H p.1=none/\p.1≠X.env.locals/\p.1∉X.fs/\∀ v,p.2.data≠.cell v):Inv X pins' σ H s:=
 ⟨I.ok,I.os,I.bare,I.base,I.loc,I.cell,I.free,I.freeC,fun p hp=>(Ya3.mp hp).elim (fun z=>I.pin p (Yai _ z)) (h p),I.hok,I.len⟩
theorem zgL{N:List Str}(hN:N.Nodup){i j:Nat}{x:Str}(a:N[i]?=some x)(b:N[j]?=some x):i=j:=by
 obtain⟨h1,e1⟩:=Ya8.mp a;obtain⟨h2,e2⟩:=Ya8.mp b;exact(Wa0 hN).mp (e1.trans e2.symm)
theorem zeP{M:Model}{A:Around}{E:#[11]}{i:Nat}{x:Str}{v:V}{u:Value}{Q:Unit->Shared->Prop}(I:#[13])(hN:X.N.Nodup)(hi:X.N[i]?=some x)(hx:#[60])(r:RelV v u)
 (h:∀ s',Inv X pins (σ.set i (some v)) H s'->(∃ a,Heap.SameBut a s.heap s'.heap/\(a=X.env.locals\/X.env.cells.lookup x=some a))->Q () s') (hf:#[20]:=by first|exact .inl rfl|exact .inr rfl|assumption):wpAny M A (storeName X.env x u) Q E s:=by
 obtain⟨m,hn,hl⟩:=id I.loc;have hcls:(X.env.scope.kind==.class||(X.env.scope.kind==.module&&X.env.locals != X.env.globals))=false:=by rw [I.ok.kind];rfl
 have hiσ : i < σ.length:=by rw [I.len];exact(Ya8.mp hi).1
 have cne:=I.cne;have tracked:∀ {a:Addr} {h':Heap},(∃ o,s.heap.get? a=some o/\H a=none)->Heap.SameBut a s.heap h'->HOk X.prog X.w H h':=fun {a h'} ha hs b ob e=>by
  obtain⟨_,_,hfree⟩:=ha;refine(I.hok b ob e).stay (fun c w' hc q=>(hs.2 c ?_).trans q) (fun _ q=>q) fun _ _ q=>q
  rintro rfl
  rcases hc with rfl|hc
  . rw [hfree] at e;cases e
  . rw [hfree] at hc;cases hc
 rcases hx with hk|hk
 . refine wpAny_storeName_local hk hn (fun h' hn' hs=>?_) hcls
   obtain⟨oL,_,_,hoL,_⟩:=id hn;refine h _ ⟨I.ok,I.os,I.bare,⟨fun b o e n hb hx=>?_,fun b o e n hb hx=>?_,I.base.free,fun b o e hx=>?_,I.base.tups,I.base.frzs,I.base.tbls⟩,⟨_,hn',fun j y v' e1 e2 e3=>?_⟩,fun y c e=>?_,I.free,I.freeC,fun p hp=>?_,tracked ⟨oL,hoL,I.free⟩ hs,by simpa using I.len⟩ ⟨_,hs,.inl rfl⟩
   . exact(hs.2 b (Yaf (YaU (YaX e) I.ok.above))).trans (I.base.keep b o e n hb hx)
   . obtain⟨sl,e1⟩:=I.base.slot b o e n hb hx
     exact⟨sl,(hs.2 b (Yaf (YaU (YaX e) I.ok.above))).trans e1⟩
   . obtain⟨o',e1⟩:=I.base.there b o e hx
     exact⟨o',(hs.2 b (Yaf (YaU (YaX e) I.ok.above))).trans e1⟩
   . by_cases hj:j=i
     . subst hj
       rw [hi] at e1;cases e1;rw [Yas hiσ] at e2;cases e2;exact⟨u,r,.inl ⟨hk,by simp⟩⟩
     . rw [Yac (WbM hj)] at e2
       obtain⟨u',r',q⟩:=hl j y v' e1 e2 e3;refine⟨u',r',?_⟩
       rcases q with ⟨k,e⟩|⟨k,c,e,z⟩
       . refine .inl ⟨k,?_⟩
         have:y≠x:=fun e=>hj (zgL hN e1 (e ▸ hi))
         simp [this,e]
       . exact .inr ⟨k,c,e,z.sameBut hs (cne y c e)⟩
   . obtain⟨w',z⟩:=I.cell y c e
     exact⟨w',z.sameBut hs (cne y c e)⟩
   . obtain⟨e,n,ne,nf,d⟩:=I.pin p hp
     exact⟨(hs.2 p.1 ne).trans e,n,ne,nf,d⟩
 . have hfn:X.fn x=true:=by
    rcases hf with z|z
    . exact z
    . rw [z] at hk;cases hk
   obtain⟨c,hc⟩:=I.ok.has x (.inl hk);obtain⟨w',z⟩:=I.cell x c hc;refine wpAny_storeName_cell I.ok.kind hk hc z (fun h' hc' hs=>?_)
   obtain⟨oc,hoc,hocd⟩:=id z;refine h { s with heap:=h' } ⟨I.ok,I.os,I.bare,⟨fun b o e n hb hx=>?_,fun b o e n hb hx=>?_,I.base.free,fun b o e hx=>?_,I.base.tups,I.base.frzs,I.base.tbls⟩,⟨m,hn.sameBut hs (WbM (cne x c hc)),fun j y v' e1 e2 e3=>?_⟩,fun y c' e=>?_,I.free,I.freeC,fun p hp=>?_,tracked ⟨oc,hoc,I.freeC x c hc⟩ hs,by simpa using I.len⟩ ⟨c,hs,.inr hc⟩
   . exact(hs.2 b (Yaf (YaU (YaX e) (I.ok.cab x c hfn hc)))).trans (I.base.keep b o e n hb hx)
   . obtain⟨sl,e1⟩:=I.base.slot b o e n hb hx
     exact⟨sl,(hs.2 b (Yaf (YaU (YaX e) (I.ok.cab x c hfn hc)))).trans e1⟩
   . obtain⟨o',e1⟩:=I.base.there b o e hx
     exact⟨o',(hs.2 b (Yaf (YaU (YaX e) (I.ok.cab x c hfn hc)))).trans e1⟩
   . by_cases hj:j=i
     . subst hj
       rw [hi] at e1;cases e1;rw [Yas hiσ] at e2;cases e2;exact⟨u,r,.inr ⟨.inl hk,c,hc,hc'⟩⟩
     . rw [Yac (WbM hj)] at e2
       obtain⟨u',r',q⟩:=hl j y v' e1 e2 e3;refine⟨u',r',?_⟩
       rcases q with q|⟨k,c',e,z'⟩
       . exact .inl q
       . refine .inr ⟨k,c',e,z'.sameBut hs ?_⟩
         rintro rfl
         exact hj (zgL hN e1 (I.ok.inj _ _ _ e hc ▸ hi))
   . by_cases hcc:c'=c
     . subst hcc;exact⟨_,hc'⟩
     . obtain⟨w2,z2⟩:=I.cell y c' e
       exact⟨w2,z2.sameBut hs hcc⟩
   . obtain⟨e,n,ne,nf,d⟩:=I.pin p hp
     refine⟨(hs.2 p.1 ?_).trans e,n,ne,nf,d⟩
     intro q;rw [q,hoc] at e;have q':oc=p.2:=Wba e;exact d w' (by rw [<-q'];exact hocd)
theorem zap{M:Model}{A:Around}{E:#[11]}{i:Nat}{x:Str}{v:V}{u:Value}{Q:Unit->Shared->Prop}(I:#[13])(hN:X.N.Nodup)(hi:X.N[i]?=some x)(hx:#[60])(r:RelV v u)
 (h:∀ s',Inv X pins (σ.set i (some v)) H s'->Q () s') (hf:#[20]:=by first|exact .inl rfl|exact .inr rfl|assumption):wpAny M A (storeName X.env x u) Q E s:=
 zeP I hN hi hx r (fun s' I' _=>h s' I') hf
theorem Inv.call'{s':Shared}{ch:#[55]}(I:#[13])(ho:s'.os=s.os)(u:Un (frs X.stack) ch H H' s.heap s'.heap)(hok:HOk X.prog X.w H' s'.heap)(hg:AllBare s'.gens)
 (hch:∀ b∈ch,(b∈X.ex\/X.s₀.heap.objs.size<=b)/\b≠X.env.locals/\(∀ x c,X.env.cells.lookup x=some c->c≠b)/\∀ p∈X.pn++pins,p.1≠b):Inv X pins σ H' s':=by
 obtain⟨h',g',d',t',o'⟩:=s';have e:o'=s.os:=ho;subst e;exact I.call (g':=g') (t':=t') (d':=d') u hok hg hch
end
abbrev XK:=Value->Option Addr->Hp->Prop
abbrev St:=List (Option V)
abbrev VK:=V->Hp->Prop
abbrev TE:=St->Hp->VK->Prop
abbrev TT:=St->Hp->(Bool->Hp->Prop)->Prop
abbrev TA:=St->Hp->(List V->Hp->Prop)->Prop
structure Ends where
 nx:St->Hp->Prop
 rt:VK
 bk:St->Hp->Prop:=fun _ _=>False
 ct:St->Hp->Prop:=fun _ _=>False
abbrev TS:=Ends->St->Hp->Prop
def EP(X:Cx)(pins:List #[17])(σ : St)(Q:VK)(u:Value)(s':Shared):Prop:=∃ v H',Inv X pins σ H' s'/\RelV v u/\Q v H'
def TP(X:Cx)(pins:List #[17])(σ : St)(Q:Bool->Hp->Prop)(b:Bool)(s':Shared):Prop:=∃ H',Inv X pins σ H' s'/\Q b H'
def AP(X:Cx)(pins:List #[17])(σ : St)(Q:List V->Hp->Prop)(us:#[28])(s':Shared):Prop:=∃ vs H',Inv X pins σ H' s'/\Vals vs us/\Q vs H'
def SP(X:Cx)(pins:List #[17])(D:Ends)(f:Flow)(s':Shared):Prop:=
 match f with
 | .next=>∃ σ' H',Inv X pins σ' H' s'/\D.nx σ' H'
 | .brk=>∃ σ' H',Inv X pins σ' H' s'/\D.bk σ' H'
 | .cont=>∃ σ' H',Inv X pins σ' H' s'/\D.ct σ' H'
 | .ret u=>∃ v σ' H',Inv X pins σ' H' s'/\RelV v u/\D.rt v H'
def PE(X:Cx)(e:Expr)(t:TE):Prop:=
 ∀ (pins:List #[17]) (s:Shared) (σ : St) (H:Hp) (Q:VK),Inv X pins σ H s->t σ H Q->wpAny #[12] X.A (eval e X.env) (EP X pins σ Q) X.xe s
def PT(X:Cx)(e:Expr)(t:TT):Prop:=
 ∀ (pins:List #[17]) (s:Shared) (σ : St) (H:Hp) (Q:Bool->Hp->Prop),Inv X pins σ H s->t σ H Q->wpAny #[12] X.A (isTrue e X.env (eval e X.env)) (TP X pins σ Q) X.xe s
def PW(X:Cx)(e:Expr)(t:TT):Prop:=
 ∀ (whole:Sem Value) (pins:List #[17]) (s:Shared) (σ : St) (H:Hp) (Q:Bool->Hp->Prop),Inv X pins σ H s->t σ H Q->wpAny #[12] X.A (isTrue e X.env whole) (TP X pins σ Q) X.xe s
theorem PW.pt{X:Cx}{e:Expr}{t:TT}(h:PW X e t):PT X e t:=h _
def PA(X:Cx)(es:#[54])(t:TA):Prop:=
 ∀ (pos:Pos) (pins:List #[17]) (s:Shared) (σ : St) (H:Hp) (Q:List V->Hp->Prop),Inv X pins σ H s->t σ H Q->wpAny #[12] X.A (spliced (backTo pos #[46])) (AP X pins σ Q) X.xe s
def PS(X:Cx)(st:Stmt)(t:TS):Prop:=
 ∀ (pins:List #[17]) (s:Shared) (σ : St) (H:Hp) (D:Ends),Inv X pins σ H s->t D σ H->wpAny #[12] X.A (exec st X.env) (SP X pins D) X.xe s
def PSs(X:Cx)(st:List Stmt)(t:TS):Prop:=
 ∀ (pins:List #[17]) (s:Shared) (σ : St) (H:Hp) (D:Ends),Inv X pins σ H s->t D σ H->wpAny #[12] X.A (execs st X.env) (SP X pins D) X.xe s
theorem thn{α : Type}{t:Sem α}{Q Q':α->Shared->Prop}{M:Model}{A:Around}{E:#[11]}{s:Shared}(h:wpAny M A t Q E s)(hQ:∀ a s,Q a s->Q' a s):wpAny M A t Q' E s:=wpAny_mono h hQ fun _ _ x=>x
section
variable{X:Cx}
def tVar(i:Nat):TE:=fun σ H Q=>∃ v,σ[i]?=some (some v)/\Q v H
def tC(v:V):TE:=fun _ H Q=>Q v H
theorem jC{i:Nat}{x:Str}{pos:Pos}(hN:X.N[i]?=some x)(hv:Vis X.env.scope x)(hd:#[21]:=by decide)(hcd:#[27]:=by decide):PE X (.Name x pos) (tVar i):=by
 intro pins s σ H Q I h;obtain⟨v,e,h⟩:=h;obtain⟨m,hn,hl⟩:=I.loc;obtain⟨u,r,l⟩:=hl i x v hN e hv;have fin:EP X pins σ Q u s:=⟨v,H,I,r,h⟩
 rcases l with ⟨hk,hm⟩|⟨hk,c,hc,hcell⟩
 . exact wpAny_Name (wpAny_loadName_local I.ok.kind hk hn hm fin) hd
 . rcases hk with hk|hk
   . exact wpAny_Name (wpAny_loadName_cell I.ok.kind hk hc hcell fin) hd
   . exact wpAny_Name (wpAny_loadName_free I.ok.kind hk hc hcell fin hcd) hd
theorem zbN{i j pos}:PE X (.Constant (.int i) j pos) (tC (.int i)):=fun _ _ _ H _ I h=>wpAny_Constant_int ⟨.int i,H,I.tok _,⟨_,rfl⟩,h⟩
theorem zmp{b j pos}:PE X (.Constant (.bool b) j pos) (tC (.bl b)):=fun _ _ _ H _ I h=>Constant_bool ⟨.bl b,H,I,rfl,h⟩
theorem zjc{j pos}:PE X (.Constant .none j pos) (tC .non):=fun _ _ _ H _ I h=>Constant_none ⟨.non,H,I,rfl,h⟩
theorem zjA{x j pos}:PE X (.Constant (.str x) j pos) (tC (.str x)):=fun _ _ _ H _ I h=>Calls.Constant_str ⟨.str x,H,I.tok _,⟨_,rfl⟩,h⟩
def Gl(X:Cx)(x:Str):Prop:=X.env.kindOf x=some .globalImplicit
theorem zcN{E:#[11]}{pins:List #[17]}{s:Shared}{σ : St}{H:Hp}{x:Str}{u:Value}{pos:Pos}{Q:#[11]}(I:#[13])(hg:Gl X x)(hm:X.mg x=some u)(h:Q u s)
 (hd:#[21]:=by decide):wpAny #[12] X.A (eval (.Name x pos) X.env) Q E s:=
 Calls.Name_function_global I.ok.kind hg (Calls.loadGlobal_global (by rw [I.ok.glob];exact I.mod.glob.keeps I.bk) hm h) hd
theorem jU{E:#[11]}{pins:List #[17]}{s:Shared}{σ : St}{H:Hp}{x:Str}{u:Value}{pos:Pos}{Q:#[11]}(I:#[13])(hg:Gl X x)(hm:X.mg x=none)(hv:bootBuiltins x=some u)(h:Q u s)
 (hn:x≠"__name__":=by decide) (hd:#[21]:=by decide):wpAny #[12] X.A (eval (.Name x pos) X.env) Q E s:=by
 obtain⟨mb,h1,h2⟩:=I.mod.blt;exact Calls.Name_function_global I.ok.kind hg (Calls.loadGlobal_builtin (by rw [I.ok.glob];exact I.mod.glob.keeps I.bk) hm (by rw [I.ok.blt];exact h1.keeps I.bk) ((h2 x hn).trans hv) h) hd
theorem zgu{x:Str}{v:V}{u:Value}{pos:Pos}(hg:Gl X x)(hm:X.mg x=some u)(r:RelV v u)(hd:#[21]:=by decide):PE X (.Name x pos) (tC v):=
 fun _ _ _ H _ I h=>zcN I hg hm ⟨v,H,I,r,h⟩ hd
theorem zlc{x:Str}{v:V}{u:Value}{pos:Pos}(hg:Gl X x)(hm:X.mg x=none)(hv:bootBuiltins x=some u)(r:RelV v u)(hn:x≠"__name__":=by decide)(hd:#[21]:=by decide):PE X (.Name x pos) (tC v):=
 fun _ _ _ H _ I h=>jU I hg hm hv ⟨v,H,I,r,h⟩ hn hd
variable{a b:Expr}{ta tb:TE}{pos:Pos}
def PC(X:Cx)(op:CmpOp)(a b:Expr)(t:TE):Prop:=
 ∀ (pins:List #[17]) (s:Shared) (σ : St) (H:Hp) (Q:VK),Inv X pins σ H s->t σ H Q->
  wpAny #[12] X.A (eval a X.env) (fun v s₁=>wpAny #[12] X.A (eval b X.env) (fun u s₂=>wpAny #[12] X.A (compareOp op v u) (EP X pins σ Q) X.xe s₂) X.xe s₁) X.xe s
theorem nobehind(b:Expr){op:CmpOp}(h:op≠.In)(h2:op≠.NotIn):behindInMarks op b=false:=by
 have e1:(op==CmpOp.In)=false:=by cases op<;>first|rfl|exact absurd rfl h
 have e2:(op==CmpOp.NotIn)=false:=by cases op<;>first|rfl|exact absurd rfl h2
 cases b<;>simp [behindInMarks,e1,e2]
def tB(t:TE):TT:=fun σ H Q=>t σ H fun x H1=>∃ c,x=.bl c/\Q c H1
theorem zmD{op:CmpOp}{t:TE}(h:PC X op a b t)(h1:behindInMarks op b=false:=by first|exact nobehind _ #[1] (by decide)|rfl):PE X (.Compare a [op] [b] pos) t:=fun pins s σ H Q I hw=>wpAny_Compare1 (h pins s σ H Q I hw) h1
theorem ziN{op:CmpOp}{t:TE}(h:PC X op a b t)(h1:behindInMarks op b=false:=by first|exact nobehind _ #[1] (by decide)|rfl):PT X (.Compare a [op] [b] pos) (tB t):=by
 intro pins s σ H Q I hw;refine wpAny_isTrue_Compare1 (thn (h pins s σ H _ I hw) fun v s1 h1=>thn h1 fun u s2 h2=>thn h2 fun c s3 ⟨x,H1,I1,r1,q1⟩=>?_) h1
 obtain⟨d,rfl,q⟩:=q1;cases r1;exact wpAny_truthy_bool ⟨H1,I1,q⟩
theorem znF{e:Expr}{t:TE}(h:PE X e t)(he:∀ whole,isTrue e X.env whole=(do let v <-whole;standAt e.pos;holding [v] (truthy v)):=by intro _;rfl):PT X e (tB t):=by
 intro pins s σ H Q I hw;refine isTrue_plain (thn (h pins s σ H _ I hw) fun v s1 ⟨x,H1,I1,r1,q1⟩=>?_) (he _)
 obtain⟨d,rfl,q⟩:=q1;cases r1;exact wpAny_truthy_bool ⟨H1,I1,q⟩
variable{tA tB':TT}{rest:#[54]}
def tAnd(t u:TT):TT:=fun σ H Q=>t σ H fun c H1=>if c=true then u σ H1 Q else Q false H1
def tOr(t u:TT):TT:=fun σ H Q=>t σ H fun c H1=>if c=true then Q true H1 else u σ H1 Q
def tNot(t:TT):TT:=fun σ H Q=>t σ H fun c H1=>Q (!c) H1
theorem zk2(ha:PT X a tA):PW X (.BoolOp .And [a] pos) tA:=by
 intro wh pins s σ H Q I h;refine isTrue_and (thn (ha pins s σ H Q I h) fun c s1 e=>?_)
 cases c with
 | true=>exact isTrue_and_nil e
 | false=>exact e
theorem zlB(ha:PT X a tA):PW X (.BoolOp .Or [a] pos) tA:=by
 intro wh pins s σ H Q I h;refine isTrue_or (thn (ha pins s σ H Q I h) fun c s1 e=>?_)
 cases c with
 | false=>exact isTrue_or_nil e
 | true=>exact e
theorem ziT(ha:PT X a tA)(hb:PW X (.BoolOp .And (b::rest) pos) tB'):PW X (.BoolOp .And (a::b::rest) pos) (tAnd tA tB'):=by
 intro wh pins s σ H Q I h;refine isTrue_and (thn (ha pins s σ H _ I h) fun c s1 ⟨H1,I1,q1⟩=>?_)
 cases c with
 | true=>exact hb wh pins s1 σ H1 Q I1 q1
 | false=>exact⟨H1,I1,q1⟩
theorem zmJ(ha:PT X a tA)(hb:PW X (.BoolOp .Or (b::rest) pos) tB'):PW X (.BoolOp .Or (a::b::rest) pos) (tOr tA tB'):=by
 intro wh pins s σ H Q I h;refine isTrue_or (thn (ha pins s σ H _ I h) fun c s1 ⟨H1,I1,q1⟩=>?_)
 cases c with
 | true=>exact⟨H1,I1,q1⟩
 | false=>exact hb wh pins s1 σ H1 Q I1 q1
theorem zl1(ha:PT X a tA):PT X (.UnaryOp .Not a pos) (tNot tA):=by
 intro pins s σ H Q I h;exact isTrue_not (ha pins s σ H (fun c H1=>Q (!c) H1) I h)
def zj8(ta tb:TE):TE:=fun σ H Q=>ta σ H fun x H1=>∃ c,x=.bl c/\if c=true then tb σ H1 Q else Q (.bl false) H1
theorem zhX{op}{t:TE}(h:PE X a t):PE X (.BoolOp op [a] pos) t:=fun pins s σ H Q I hw=>BoolOp_one (h pins s σ H Q I hw)
theorem zlr(ha:PE X a ta)(hb:PE X (.BoolOp .And (b::rest) pos) tb):PE X (.BoolOp .And (a::b::rest) pos) (zj8 ta tb):=by
 intro pins s σ H Q I h;refine BoolOp_and (thn (ha pins s σ H _ I h) fun v s1 ⟨x,H1,I1,r1,q1⟩=>?_)
 obtain⟨c,rfl,q1⟩:=q1;cases r1;refine wpAny_truthy_bool ?_;cases c with
 | true=>exact hb pins s1 σ H1 Q I1 q1
 | false=>exact⟨.bl false,H1,I1,rfl,q1⟩
end
def SqL(K:Ybf)(H:Hp)(a:Addr)(xs:List V):Prop:=
 Rd H a (.lst xs)\/
  ∃ (o:Obj) (its:Array Value) (n:Nat),K.lookup a=some o/\o.cls=.type "list"/\o.dict=none/\o.data=.seq its n/\its.size<=sizeLine/\Vals xs its.toList
def SqT(K:Ybf)(H:Hp)(a:Addr)(xs:List V):Prop:=
 Rd H a (.tup xs)\/
  ∃ (o:Obj) (its:Array Value) (n:Nat),K.lookup a=some o/\o.cls=.type "tuple"/\o.data=.seq its n/\its.size<=sizeLine/\Vals xs its.toList
def absV:Value->Option V
 | .none=>some .non
 | .bool b=>some (.bl b)
 | .int i _=>some (.int i)
 | .str x _=>some (.str x)
 | .bytes b _=>some (.byt b)
 | .float b _=>some (.flt b)
 | .ref a=>some (.ref a)
 | .type n=>some (.ty n)
 | _=>none
theorem RelV.abs{x:V}{u:Value}(r:RelV x u):absV u=some x:=by
 cases x with
 | non=>cases r;rfl
 | bl _=>cases r;rfl
 | int _=>obtain⟨t,rfl⟩:=r;rfl
 | str _=>obtain⟨t,rfl⟩:=r;rfl
 | byt _=>obtain⟨t,rfl⟩:=r;rfl
 | flt _=>obtain⟨t,rfl⟩:=r;rfl
 | ref _=>cases r;rfl
 | ty _=>cases r;rfl
theorem RelV.inj{x y:V}{u:Value}(r:RelV x u)(q:RelV y u):x=y:=Wba (r.abs.symm.trans q.abs)
theorem Vals.inj:∀ {xs ys:List V} {us:#[28]},Vals xs us->Vals ys us->xs=ys
 | _,_,_,.nil,.nil=>rfl
 | _,_,_,.cons r t,.cons r' t'=>by rw [r.inj r',Vals.inj t t']
section
variable{X:Cx}{pins:List #[17]}{σ : St}{H:Hp}{s:Shared}{a:Addr}{xs ys:List V}
theorem SqL.of{K:Ybf}(h:H a=some (.lst xs)):SqL K H a xs:=.inl (.inl h)
theorem SqT.of{K:Ybf}(h:H a=some (.tup xs)):SqT K H a xs:=.inl (.inl h)
theorem Inv.list(I:#[13])(h:SqL X.K H a xs):∃ its:List Value,Vals xs its/\PlainL s.heap a its.toArray/\xs.length<=sizeLine:=by
 rcases h with h|⟨o,its,n,hk,hc,hd,hs,hz,r⟩
 . obtain⟨z,its,n,r,e⟩:=h.ok I.hok
   exact⟨its,r,⟨_,n,e,rfl,rfl,rfl⟩,z⟩
 . refine⟨its.toList,r,⟨o,n,I.kIn a o hk,hc,hd,by simpa using hs⟩,?_⟩
   have e:=r.length;simp only [Array.length_toList] at e
   omega
theorem Inv.tuple(I:#[13])(h:SqT X.K H a xs):∃ its:List Value,Vals xs its/\IsTup s.heap a its.toArray/\xs.length<=sizeLine:=by
 rcases h with h|⟨o,its,n,hk,hc,hs,hz,r⟩
 . obtain⟨z,its,r,p⟩:=h.ok I.hok
   exact⟨its,r,p,z⟩
 . refine⟨its.toList,r,⟨o,I.kIn a o hk,hc,n,by simpa using hs⟩,?_⟩
   have e:=r.length;simp only [Array.length_toList] at e
   omega
theorem Inv.list_inj(I:#[13])(h:SqL X.K H a xs)(h':SqL X.K H a ys):xs=ys:=by
 obtain⟨its,r,⟨o,n,e,_,_,d⟩,_⟩:=I.list h;obtain⟨its',r',⟨o',n',e',_,_,d'⟩,_⟩:=I.list h';rw [e] at e';cases e';rw [d] at d'
 injection d' with d1 _
 have:its=its':=by simpa using congrArg Array.toList d1
 subst this;exact r.inj r'
theorem Inv.tuple_inj(I:#[13])(h:SqT X.K H a xs)(h':SqT X.K H a ys):xs=ys:=by
 obtain⟨its,r,⟨o,e,_,n,d⟩,_⟩:=I.tuple h;obtain⟨its',r',⟨o',e',_,n',d'⟩,_⟩:=I.tuple h';rw [e] at e';cases e';rw [d] at d'
 injection d' with d1 _
 have:its=its':=by simpa using congrArg Array.toList d1
 subst this;exact r.inj r'
end
abbrev Cx.wish(X:Cx)(E:#[11]):Cx:={ X with xe:=E }
abbrev Cx.nox(X:Cx):Cx:=X.wish fun _ _=>False
theorem Cx.Ok.wish{X:Cx}(ok:X.Ok)(E:#[11]):(X.wish E).Ok:=
 ⟨ok.mod,ok.kind,ok.glob,ok.blt,ok.above,ok.inj,ok.has,ok.cab,ok.hd,ok.frames,ok.stk,ok.exf,ok.bs,ok.bsz,ok.noex,ok.exfs,ok.funs,ok.frf⟩
theorem Cx.Ok.unwish{X:Cx}{E:#[11]}(ok:(X.wish E).Ok):X.Ok:=
 ⟨ok.mod,ok.kind,ok.glob,ok.blt,ok.above,ok.inj,ok.has,ok.cab,ok.hd,ok.frames,ok.stk,ok.exf,ok.bs,ok.bsz,ok.noex,ok.exfs,ok.funs,ok.frf⟩
section
variable{X:Cx}{pins:List #[17]}{σ : St}{H:Hp}{s:Shared}{E:#[11]}
theorem Inv.wish(I:#[13])(E:#[11]):Inv (X.wish E) pins σ H s:=⟨I.ok.wish E,I.os,I.bare,I.base,I.loc,I.cell,I.free,I.freeC,I.pin,I.hok,I.len⟩
theorem Inv.unwish(I:Inv (X.wish E) pins σ H s):Inv X pins σ H s:=⟨I.ok.unwish,I.os,I.bare,I.base,I.loc,I.cell,I.free,I.freeC,I.pin,I.hok,I.len⟩
theorem SP.unwish{D:Ends}{f:Flow}{s':Shared}(h:SP (X.wish E) pins D f s'):SP X pins D f s':=by
 cases f with
 | next=>obtain⟨σ',H',I,q⟩:=h;exact⟨σ',H',I.unwish,q⟩
 | brk=>obtain⟨σ',H',I,q⟩:=h;exact⟨σ',H',I.unwish,q⟩
 | cont=>obtain⟨σ',H',I,q⟩:=h;exact⟨σ',H',I.unwish,q⟩
 | ret u=>obtain⟨v,σ',H',I,r,q⟩:=h;exact⟨v,σ',H',I.unwish,r,q⟩
theorem PE.nox{e:Expr}{t:TE}(h:PE X.nox e t):PE X e t:=fun pins s σ H Q I hw=>
 wpAny_mono (h pins s σ H Q (I.wish _) hw) (fun _ _ ⟨v,H',I',r,q⟩=>⟨v,H',I'.unwish,r,q⟩) fun _ _ z=>False.elim z
theorem PT.nox{e:Expr}{t:TT}(h:PT X.nox e t):PT X e t:=fun pins s σ H Q I hw=>
 wpAny_mono (h pins s σ H Q (I.wish _) hw) (fun _ _ ⟨H',I',q⟩=>⟨H',I'.unwish,q⟩) fun _ _ z=>False.elim z
theorem PSs.nox{st:List Stmt}{t:TS}(h:PSs X.nox st t):PSs X st t:=fun pins s σ H D I hw=>
 wpAny_mono (h pins s σ H D (I.wish _) hw) (fun _ _ q=>q.unwish) fun _ _ z=>False.elim z
end
section
variable{X:Cx}{st:Stmt}{rest:List Stmt}{t u:TS}{e:Expr}{te:TE}{pos:Pos}
def tNext:TS:=fun D σ H=>D.nx σ H
def tSeq(t u:TS):TS:=fun D σ H=>t { D with nx:=u D } σ H
theorem zfV:PSs X [] tNext:=fun _ _ σ H _ I h=>wpAny_execs_nil ⟨σ,H,I,h⟩
theorem za1(h1:PS X st t)(h2:PSs X rest u):PSs X (st::rest) (tSeq t u):=by
 intro pins s σ H D I h;refine wpAny_execs_cons (thn (h1 pins s σ H { D with nx:=u D } I h) fun f s1 q=>?_)
 cases f with
 | next=>
  obtain⟨σ',H',I',q⟩:=q;exact h2 pins s1 σ' H' D I' q
 | ret v=>exact q
 | brk=>exact q
 | cont=>exact q
theorem zhw(h1:PS X st t):PSs X [st] t:=by
 intro pins s σ H D I h;refine wpAny_execs_cons (thn (h1 pins s σ H D I h) fun f s1 q=>?_)
 cases f with
 | next=>exact wpAny_execs_nil q
 | ret v=>exact q
 | brk=>exact q
 | cont=>exact q
theorem Inv.quiet{pins:List #[17]}{σ : St}{H:Hp}{s:Shared}(I:#[13]):interactive X.env=false:=by simp [interactive,I.ok.kind]
def zh3(te:TE):TS:=fun D σ H=>te σ H fun _ H1=>D.nx σ H1
theorem Za(he:PE X e te)(hs:swapsWith e none pos.line X.env=pure false:=by rfl):PS X (.Expr e pos) (zh3 te):=by
 intro pins s σ H D I h;exact wpAny_Expr_any (thn (he pins s σ H _ I h) fun v s1 ⟨x,H1,I1,r1,q1⟩=>⟨σ,H1,I1,q1⟩) I.quiet hs
def tRet(te:TE):TS:=fun D σ H=>te σ H D.rt
theorem zcc(he:PE X e te):PS X (.Return (some e) pos) (tRet te):=by
 intro pins s σ H D I h;exact wpAny_Return_some (thn (he pins s σ H _ I h) fun v s1 ⟨x,H1,I1,r1,q1⟩=>⟨x,σ,H1,I1,r1,q1⟩)
def tIfS(c:TT)(t u:TS):TS:=fun D σ H=>c σ H fun b H1=>if b=true then t D σ H1 else u D σ H1
theorem zfD{c:Expr}{a b:List Stmt}{tc:TT}(hc:PT X c tc)(ha:PSs X a t)(hb:PSs X b u):PS X (.If c a b pos) (tIfS tc t u):=by
 intro pins s σ H D I h;refine wpAny_If (thn (hc pins s σ H _ I h) fun d s1 ⟨H1,I1,q1⟩=>?_)
 cases d with
 | true=>exact ha pins s1 σ H1 D I1 q1
 | false=>exact hb pins s1 σ H1 D I1 q1
end
abbrev TG:=V->St->Hp->(St->Hp->Prop)->Prop
abbrev TGs:=List V->St->Hp->(St->Hp->Prop)->Prop
def PG(X:Cx)(target:Expr)(t:TG):Prop:=
 ∀ (pins:List #[17]) (s:Shared) (σ : St) (H:Hp) (v:V) (u:Value) (Q:St->Hp->Prop),Inv X pins σ H s->RelV v u->t v σ H Q->
  wpAny #[12] X.A (assign target X.env u) (fun _ s'=>∃ σ' H',Inv X pins σ' H' s'/\Q σ' H') X.xe s
def PGs(X:Cx)(ts:#[54])(t:TGs):Prop:=
 ∀ (pins:List #[17]) (s:Shared) (σ : St) (H:Hp) (vs:List V) (us:#[28]) (Q:St->Hp->Prop),Inv X pins σ H s->Vals vs us->t vs σ H Q->
  wpAny #[12] X.A (assignInOrder ((assignEach ts X.env).map (·.2)) us) (fun _ s'=>∃ σ' H',Inv X pins σ' H' s'/\Q σ' H') X.xe s
abbrev TSet:=V->V->V->Hp->(Hp->Prop)->Prop
def PSet(X:Cx)(t:TSet):Prop:=
 ∀ (pins:List #[17]) (s:Shared) (σ : St) (H:Hp) (o i v:V) (ov iv u:Value) (Q:Hp->Prop),Inv X pins σ H s->RelV o ov->RelV i iv->RelV v u->t o i v H Q->
  wpAny #[12] X.A (setItem ov iv u) (fun _ s'=>∃ H',Inv X pins σ H' s'/\Q H') X.xe s
abbrev TIp:=V->V->Hp->VK->Prop
def PIp(X:Cx)(op:Operator)(t:TIp):Prop:=
 ∀ (pins:List #[17]) (s:Shared) (σ : St) (H:Hp) (x y:V) (v u:Value) (Q:VK),Inv X pins σ H s->RelV x v->RelV y u->t x y H Q->
  wpAny #[12] X.A (inplaceOp op v u) (EP X pins σ Q) X.xe s
section
variable{X:Cx}{pos:Pos}
def zaQ(i:Nat):TG:=fun v σ H Q=>Q (σ.set i (some v)) H
theorem zfH{i:Nat}{x:Str}(hN:X.N.Nodup)(hi:X.N[i]?=some x)(hx:#[60])(hf:#[20]:=by first|exact .inl rfl|exact .inr rfl|assumption):PG X (.Name x pos) (zaQ i):=by
 intro pins s σ H v u Q I r h;exact wpAny_assign_Name (zap I hN hi hx r (fun s' I'=>⟨_,H,I',h⟩) hf)
def gNil:TGs:=fun vs σ H Q=>vs=[]/\Q σ H
def zm8(t:TG)(u:TGs):TGs:=fun vs σ H Q=>∃ v r,vs=v::r/\t v σ H fun σ' H'=>u r σ' H' Q
theorem zkf:PGs X [] gNil:=by
 intro pins s σ H vs us Q I r h;obtain⟨e,h⟩:=h;subst e;cases r;exact assignInOrder_nil ⟨σ,H,I,h⟩
theorem zhU{e:Expr}{es:#[54]}{t:TG}{u:TGs}(h1:PG X e t)(h2:PGs X es u)
 (hs:(assignEach (e::es) X.env).map (·.2)=assign e X.env::(assignEach es X.env).map (·.2):=by rfl):PGs X (e::es) (zm8 t u):=by
 intro pins s σ H vs us Q I r h;obtain⟨v,vr,e1,h⟩:=h;subst e1;cases r with
 | cons r rr=>
  rw [hs];refine assignInOrder_cons (thn (h1 pins s σ H _ _ _ I r h) fun _ s1 ⟨σ1,H1,I1,q1⟩=>?_)
  exact h2 pins s1 σ1 H1 _ _ Q I1 rr q1
def gTup(K:Ybf)(n:Nat)(t:TGs):TG:=fun v σ H Q=>∃ a xs,v=.ref a/\SqT K H a xs/\xs.length=n/\t xs σ H Q
theorem zjk{es:#[54]}{k:Nat}{t:TGs}{n:Nat}(hc:X.calm=true)(h:PGs X es t)
 (hn:(assignEach es X.env).length=n:=by rfl) (hst:(assignEach es X.env).findIdx? (·.1)=none:=by rfl):PG X (.Tuple es k pos) (gTup X.K n t):=by
 intro pins s σ H v u Q I r hw;obtain⟨a,xs,e1,hq,hl,hw⟩:=hw;subst e1;cases r;obtain⟨its,rv,ht,hz⟩:=I.tuple hq;refine assign_Tuple_tuple #[67] ht (by simp [hn,<-hl,rv.length]) hst fun h' hx=>?_
 have I1:Inv X pins σ H { s with heap:=h' }:=I.kept (t':=s.toks) fun b o e=>hx b o (Yaf (YaX e)) e
 exact h pins _ σ H xs _ Q I1 (by simpa using rv) hw
def gSub(to ti:TE)(t:TSet):TG:=fun v σ H Q=>to σ H fun o H1=>ti σ H1 fun i H2=>t o i v H2 fun H3=>Q σ H3
theorem zl8{o i:Expr}{to ti:TE}{t:TSet}(ho:PE X o to)(hi:PE X i ti)(hs:PSet X t)
 (ha:∀ v,assign (.Subscript o i pos) X.env v=(do
  let ov <-holding [v] (eval o X.env)
  let iv <-holding [v,ov] (eval i X.env)
  standAt pos
  holding [v,ov,iv] (setItem ov iv v)
  release [v,ov,iv] []):=by intro _;rfl):PG X (.Subscript o i pos) (gSub to ti t):=by
 intro pins s σ H v u Q I r h;rw [ha];refine wpAny_bind (wpAny_holding (thn (ho pins s σ H _ I h) fun ov s1 ⟨x,H1,I1,r1,q1⟩=>?_))
 refine wpAny_bind (wpAny_holding (thn (hi pins s1 σ H1 _ I1 q1) fun iv s2 ⟨y,H2,I2,r2,q2⟩=>?_))
 refine wpAny_bind (wpAny_standAt (wpAny_bind (wpAny_holding (thn (hs pins s2 σ H2 x y v ov iv u _ I2 r1 r2 r q2) fun _ s3 ⟨H3,I3,q3⟩=>?_))))
 exact wpAny_release ⟨σ,H3,I3,q3⟩
def tAsg(te:TE)(g:TG):TS:=fun D σ H=>te σ H fun x H1=>g x σ H1 D.nx
theorem zfi{tg e:Expr}{te:TE}{g:TG}(he:PE X e te)(hg:PG X tg g)(hs:swapsWithSole [tg] e pos.line X.env=pure false:=by rfl)(hw:swappedStores [tg] e X.env=pure none:=by rfl)
 (h1:(assignEach [tg] X.env).map (·.2)=[assign tg X.env]:=by rfl):PS X (.Assign [tg] e pos) (tAsg te g):=by
 intro pins s σ H D I h;refine wpAny_Assign_stores (thn (he pins s σ H _ I h) fun v s1 ⟨x,H1,I1,r1,q1⟩=>?_) hs hw
 rw [h1];exact thn (hg pins s1 σ H1 x v _ I1 r1 q1) fun _ s2 q=>q
theorem JU{i:Nat}{x:Str}{e:Expr}{te:TE}{pos':Pos}(hN:X.N.Nodup)(hi:X.N[i]?=some x)(hx:#[60])(he:PE X e te)(hs:swapsWith e (some (.Name x pos')) pos.line X.env=pure false:=by rfl)(hf:#[20]:=by first|exact .inl rfl|exact .inr rfl|assumption) :
 PS X (.Assign [.Name x pos'] e pos) (tAsg te (zaQ i)):=by
 intro pins s σ H D I h;refine wpAny_Assign_Name (thn (he pins s σ H _ I h) fun v s1 ⟨y,H1,I1,r1,q1⟩=>?_) hs
 exact zap I1 hN hi hx r1 (fun s2 I2=>⟨_,H1,I2,q1⟩) hf
def tPar(i j:Nat)(ta:TA):TS:=fun D σ H=>ta σ H fun vs H1=>∃ v w,vs=[v,w]/\D.nx ((σ.set i (some v)).set j (some w)) H1
theorem zm4{i j:Nat}{x y:Str}{a b:Expr}{ta:TA}{px py pt:Pos}{kt k2 pt2}(hc:X.calm=true)(hN:X.N.Nodup)(hi:X.N[i]?=some x)(hj:X.N[j]?=some y)(hij:i≠j)
 (hx:X.env.scope.names.lookup x=some .local) (hy:X.env.scope.names.lookup y=some .local) (ha:PA X [a,b] ta)
 (hw:swappedStores [.Tuple [.Name x px,.Name y py] kt pt] (.Tuple [a,b] k2 pt2) X.env=pure (some [x,y]))
 (hs:swapsWithSole [.Tuple [.Name x px,.Name y py] kt pt] (.Tuple [a,b] k2 pt2) pos.line X.env=pure false:=by rfl) :
 PS X (.Assign [.Tuple [.Name x px,.Name y py] kt pt] (.Tuple [a,b] k2 pt2) pos) (tPar i j ta):=by
 intro pins s σ H D I h;rw [exec_Assign_arm];refine wpAny_bind (wpAny_standAt ?_);rw [hs];refine wpAny_bind (wpAny_pure ?_);rw [if_neg #[1]]
 refine wpAny_bind (Tuple_ (thn (ha _ pins s σ H _ I h) fun us s1 ⟨vs,H1,I1,r1,q1⟩=>?_))
 obtain⟨v,w,e1,q1⟩:=q1;subst e1;obtain⟨u1,u2,rfl,rv,rw'⟩:∃ u1 u2,us=[u1,u2]/\RelV v u1/\RelV w u2:=by
  cases r1 with
  | cons p q=>
   cases q with
   | cons p' q'=>
    cases q';exact⟨_,_,rfl,p,p'⟩
 refine wpAny_newObj_type ?_ (by show 2<=sizeLine;decide)
 have I2:Inv X pins σ H1 { s1 with heap:=s1.heap.push { cls:=.type "tuple", data:=.seq [u1,u2].toArray } }:=I1.kept (t':=s1.toks) fun b o e=>YaW _ e
 rw [hw];refine wpAny_bind (wpAny_pure ?_);show wpAny #[12] X.A (do rule "assign.swapped-stores";let items <-unpackItems (.ref s1.heap.objs.size) 2 none;assignInOrder [fun v=>bindName X.env y v,fun v=>bindName X.env x v] items.reverse;pure Flow.next) _ _ _
 refine wpAny_bind (wpAny_rule (wpAny_bind (unpackItems_tuple (items:=#[u1,u2]) #[67] (IsTup.new s1.heap _) fun h' hx'=>?_)))
 have I3:=I2.kept (h':=h') (t':=s1.toks) fun b o e=>hx' b o (Yaf (YaX e)) e
 show wpAny _ _ (assignInOrder [fun v=>bindName X.env y v,fun v=>bindName X.env x v] [u2,u1] >>= fun _=>pure Flow.next) _ _ _
 refine wpAny_bind (assignInOrder_cons (wpAny_bindName (zap I3 hN hj (.inl hy) rw' (fun s2 I4=>?_) (.inr hy))))
 refine assignInOrder_cons (wpAny_bindName (zap I4 hN hi (.inl hx) rv (fun s3 I5=>assignInOrder_nil (wpAny_pure ?_)) (.inr hx)))
 rw [List.set_comm _ _ (WbM hij)] at I5;exact⟨_,H1,I5,q1⟩
def tAug(i:Nat)(te:TE)(ti:TIp):TS:=fun D σ H=>∃ x,σ[i]?=some (some x)/\te σ H fun y H1=>ti x y H1 fun z H2=>D.nx (σ.set i (some z)) H2
theorem zmi{i:Nat}{x:Str}{e:Expr}{te:TE}{op:Operator}{ti:TIp}{pos':Pos}(hN:X.N.Nodup)(hi:X.N[i]?=some x)(hx:#[60])(he:PE X e te)(ho:PIp X op ti)(hf:#[20]:=by first|exact .inl rfl|exact .inr rfl|assumption) :
 PS X (.AugAssign (.Name x pos') op e pos) (tAug i te ti):=by
 intro pins s σ H D I h;obtain⟨v,e1,h⟩:=h;obtain⟨m,hn,hl⟩:=I.loc;have vis:Vis X.env.scope x:=by rcases hx with k|k;exact .inl k;exact .inr (.inl k)
 obtain⟨u,r,l⟩:=hl i x v hi e1 vis;refine wpAny_AugAssign_Name ?_;have go:wpAny #[12] X.A (eval e X.env) (fun w s₂=>wpAny #[12] X.A (inplaceOp op u w) (fun r s₃=>wpAny #[12] X.A (storeName X.env x r) (fun _=>SP X pins D .next) X.xe s₃) X.xe s₂) X.xe s:=by
  refine thn (he pins s σ H _ I h) fun w s1 ⟨y,H1,I1,r1,q1⟩=>?_
  refine thn (ho pins s1 σ H1 v y u w _ I1 r r1 q1) fun z s2 ⟨zv,H2,I2,r2,q2⟩=>?_
  exact zap I2 hN hi hx r2 (fun s3 I3=>⟨_,H2,I3,q2⟩) hf
 rcases l with ⟨hk,hm⟩|⟨hk,c,hc,hcell⟩
 . exact wpAny_loadName_local I.ok.kind hk hn hm go
 . rcases hk with hk|hk
   . exact wpAny_loadName_cell I.ok.kind hk hc hcell go
   . rcases hx with k|k
     . have:X.env.scope.names.lookup x=some .free:=hk
       rw [k] at this;cases this
     . have:X.env.scope.names.lookup x=some .free:=hk
       rw [k] at this;cases this
def ipI(f:Int->Int->Int):TIp:=fun x y H Q=>∃ i j,x=.int i/\y=.int j/\Q (.int (f i j)) H
theorem zkd:PIp X .Add (ipI fun i j=>i+j):=by
 intro pins s σ H x y v u Q I r1 r2 h;obtain⟨i,j,e1,e2,q⟩:=h;subst e1;subst e2;obtain⟨t,rfl⟩:=r1;obtain⟨t',rfl⟩:=r2;exact iadd_int ⟨.int _,H,I.tok _,⟨_,rfl⟩,q⟩
end
section
variable{X:Cx}{pos:Pos}
def zeq(c:TT)(tb:TS):TS:=fun D σ H=>∃ W:Nat->St->Hp->Prop,(∃ m,W m σ H)/\∀ m σ H,W m σ H->
 c σ H fun b H1=>if b=true then ∃ N:St->Hp->Prop,(∀ σ' H',N σ' H'->∃ m',m'<m/\W m' σ' H')/\tb { D with nx:=N,ct:=N,bk:=D.nx } σ H1 else D.nx σ H1
theorem zhV{c:Expr}{body:List Stmt}{tc:TT}{tb:TS}(hp:PassesOwn #[12] X.A X.env X.xe)(hc:PT X c tc)(hb:PSs X body tb):PS X (.While c body [] pos) (zeq tc tb):=by
 intro pins s σ H D I h;obtain⟨W,⟨m0,w0⟩,turn⟩:=h;refine wpAny_While (codeAny_whileLoop (fun n s'=>∃ σ' H',Inv X pins σ' H' s'/\W n σ' H') ?_ m0 ⟨σ,H,I,w0⟩)
 rintro n s1 ⟨σ1,H1,I1,w1⟩
 refine wpAny_passesOwn hp (thn (hc pins s1 σ1 H1 _ I1 (turn n σ1 H1 w1)) fun b s2 ⟨H2,I2,q2⟩=>?_)
 cases b with
 | true=>
  obtain⟨N,hN,q2⟩:=q2;rw [if_pos rfl];refine wpAny_passesOwn hp (thn (hb pins s2 σ1 H2 _ I2 q2) fun f s3 q3=>?_)
  cases f with
  | next=>
   obtain⟨σ3,H3,I3,n3⟩:=q3;obtain⟨m',hm,w3⟩:=hN σ3 H3 n3;exact⟨m',hm,σ3,H3,I3,w3⟩
  | cont=>
   obtain⟨σ3,H3,I3,n3⟩:=q3;obtain⟨m',hm,w3⟩:=hN σ3 H3 n3;exact⟨m',hm,σ3,H3,I3,w3⟩
  | brk=>exact q3
  | ret v=>exact q3
 | false=>
  rw [if_neg Yal];exact wpAny_execs_nil ⟨σ1,H2,I2,q2⟩
end
structure It where
 go:Nat->Hp->Prop
 yld:Nat->Hp->V->Hp->Prop
 stop:Nat->Hp->Prop
def FpOk(X:Cx)(pins:List #[17])(H:Hp)(b:Addr):Prop:=
 H b=none/\b≠X.env.locals/\b∉X.fs/\(b∈X.ex\/X.s₀.heap.objs.size<=b)/\(∀ x c,X.env.cells.lookup x=some c->c≠b)/\∀ p∈X.pn++pins,p.1≠b
theorem Inv.fpOk{X:Cx}{pins:List #[17]}{σ : St}{H H':Hp}{s:Shared}{b:Addr}(I:#[13])(hb:s.heap.objs.size<=b)(hn:H' b=none):FpOk X pins H' b:=by
 refine⟨hn,Wbx (YaU I.lt hb),I.nofs hb,.inr (Ya5 I.sz hb),fun x c e z=>?_,fun p hp z=>?_⟩
 . obtain⟨v,q⟩:=I.cell x c e
   exact absurd (YaU q.lt (by rw [z];exact hb)) (Yap _)
 . exact absurd (YaU (YaX (I.pin p hp).1) (by rw [z];exact hb)) (Yap _)
structure Turn(P:Program)(w:World)(K:Ybf)(tg:Expr)(J:It)(fp:#[55])(it:Addr)(tn:Nat->Heap->Prop):Prop where
 mem:it∈fp
 obj:∀ i h,tn i h->∀ b∈fp,∃ o,h.get? b=some o/\∀ v,o.data≠.cell v
 keep:∀ i h h',tn i h->(∀ b∈fp,∀ o,h.get? b=some o->h'.get? b=some o)->tn i h'
 item:∀ (X:Cx),X.prog=P->X.w=w->X.K=K->X.calm=true->∀ (i:Nat) (pins:List #[17]) (s:Shared) (σ : St) (H:Hp) (E:#[11]),Inv X pins σ H s->(∀ b∈fp,FpOk X pins H b)->tn i s.heap->J.go i H->
  wpAny (model P w) X.A (pyNext (.ref it)) (fun r s1=>∃ u,r=some u/\
   wpAny (model P w) X.A (letOwnedTupleGo tg (.ref it) u) (fun _ s2=>∃ x H',Inv X pins σ H' s2/\RelV x u/\J.yld i H x H'/\tn (i+1) s2.heap/\∀ b∈fp,H' b=none) E s1) E s
 done:∀ (X:Cx),X.prog=P->X.w=w->X.K=K->X.calm=true->∀ (i:Nat) (pins:List #[17]) (s:Shared) (σ : St) (H:Hp) (E:#[11]),Inv X pins σ H s->(∀ b∈fp,FpOk X pins H b)->tn i s.heap->J.stop i H->
  wpAny (model P w) X.A (pyNext (.ref it)) (fun r s1=>r=none/\Inv X pins σ H s1) E s
 self:∀ (A:Around) (i:Nat) (s:Shared) (Q:#[11]) (E:#[11]),tn i s.heap->Q (.ref it) s->wpAny (model P w) A (pyIter (.ref it)) Q E s
abbrev TI:=St->Hp->(It->Hp->Prop)->Prop
def PIE(X:Cx)(pins:List #[17])(σ : St)(tg:Expr)(R:It->Hp->Prop)(itv:Value)(s2:Shared):Prop:=
 ∃ (it:Addr) (fp:#[55]) (tn:Nat->Heap->Prop) (J:It) (H':Hp),itv=.ref it/\Inv X pins σ H' s2/\Turn X.prog X.w X.K tg J fp it tn/\tn 0 s2.heap/\(∀ b∈fp,FpOk X pins H' b)/\R J H'
def PI(X:Cx)(tg iter:Expr)(wi:TI):Prop:=
 ∀ (pins:List #[17]) (s:Shared) (σ : St) (H:Hp) (R:It->Hp->Prop),Inv X pins σ H s->wi σ H R->
  wpAny #[12] X.A (eval iter X.env) (fun v s1=>wpAny #[12] X.A (pyIter v) (PIE X pins σ tg R) X.xe s1) X.xe s
theorem zby{M:Model}{A:Around}{E:#[11]}{s:Shared}{tg:Expr}{it:Addr}{u:Value}{o:Obj}{n:String}{vs:Array Value}{Q:Unit->Shared->Prop}(ho:s.heap.get? it=some o)(hc:o.cls=.type n)(hd:o.data=.fields vs)
 (hn:["enumerate", "zip", "dict_itemiterator", "dict_reverseitemiterator", "odict_iterator", "itertools.zip_longest", "itertools.pairwise"].contains n=false) (hQ:Q () s):wpAny M A (letOwnedTupleGo tg (.ref it) u) Q E s:=by
 unfold letOwnedTupleGo;cases tg<;>first
  | exact wpAny_pure hQ
  | (cases u <;> first
   | exact wpAny_pure hQ
   | (refine wpAny_bind (wpAny_load ho ?_)
      rw [hc,hd];show wpAny M A (if(["enumerate", "zip", "dict_itemiterator", "dict_reverseitemiterator", "odict_iterator", "itertools.zip_longest", "itertools.pairwise"].contains n&&vs[0]? == some (rawInt _))=true then _ else _) Q E s
      rw [if_neg (by intro h;rw [hn,Bool.false_and] at h;cases h)]
      exact wpAny_pure hQ))
def Itl(K:Ybf)(a:Addr):It:=
 ⟨fun i H=>∃ xs x,SqL K H a xs/\xs[i]?=some x,fun i H x H'=>H'=H/\∀ xs,SqL K H a xs->xs[i]?=some x,fun i H=>∃ xs,SqL K H a xs/\xs.length<=i⟩
def Itt(K:Ybf)(a:Addr):It:=
 ⟨fun i H=>∃ xs x,SqT K H a xs/\xs[i]?=some x,fun i H x H'=>H'=H/\∀ xs,SqT K H a xs->xs[i]?=some x,fun i H=>∃ xs,SqT K H a xs/\xs.length<=i⟩
def Itr(lo:Int)(n:Nat):It:=⟨fun i _=>i<n,fun i H x H'=>H'=H/\x=.int (lo+i),fun i _=>n<=i⟩
theorem zg9{P:Program}{w:World}{K:Ybf}{tg:Expr}(a it:Addr):Turn P w K tg (Itl K a) [it] it (fun i h=>h.IsListIter it a i) where
 mem:=by simp
 obj:=fun i h st b hb=>by
  have e:b=it:=by simpa using hb
  subst e;obtain⟨o,e,c,d⟩:=st;exact⟨o,e,fun v z=>by rw [d] at z;cases z⟩
 keep:=fun i h h' st k=>st.at fun o e=>k it (by simp) o e
 item:=by
  intro X hP hw hK hc i pins s σ H E I hf st hg;subst hP hw hK;obtain⟨xs,x,hq,hx⟩:=hg;obtain⟨its,rv,p,hz⟩:=I.list hq;obtain⟨u,hu,ru⟩:=rv.get hx;obtain⟨f0,f1,f2,f3,f4,f5⟩:=hf it (by simp)
  refine wpAny_pyNext_list_item st p.isList (x:=u) (by simpa using hu) fun h' st' sb=>?_
  have I1:Inv X pins σ H { s with heap:=h' }:=I.turned (t':=s.toks) (fun b o hb e=>(sb.2 b hb).trans e) f0 f1 f3 f4 f5
  obtain⟨o,e,c,d⟩:=id st';exact⟨u,rfl,zby (s:={ s with heap:=h' }) e c d #[1] ⟨x,H,I1,ru,⟨rfl,fun ys hy=>by rw [I.list_inj hy hq];exact hx⟩,st',fun b hb=>(hf b hb).1⟩⟩
 done:=by
  intro X hP hw hK hc i pins s σ H E I hf st hg;subst hP hw hK;obtain⟨xs,hq,hx⟩:=hg;obtain⟨its,rv,p,hz⟩:=I.list hq;obtain⟨f0,f1,f2,f3,f4,f5⟩:=hf it (by simp)
  have hl:=rv.length;exact wpAny_pyNext_list_end #[67] st p.isList #[6] fun h' eb=>⟨rfl,I.turned (t':=s.toks) (fun b o hb e=>eb b o hb e) f0 f1 f3 f4 f5⟩
 self:=fun _ _ _ _ _ st h=>wpAny_pyIter_listiter st h
theorem zhb{P:Program}{w:World}{K:Ybf}{tg:Expr}(a it:Addr):Turn P w K tg (Itt K a) [it] it (fun i h=>h.IsTupleIter it a i) where
 mem:=by simp
 obj:=fun i h st b hb=>by
  have e:b=it:=by simpa using hb
  subst e;obtain⟨o,e,c,d⟩:=st;exact⟨o,e,fun v z=>by rw [d] at z;cases z⟩
 keep:=fun i h h' st k=>st.at fun o e=>k it (by simp) o e
 item:=by
  intro X hP hw hK hc i pins s σ H E I hf st hg;subst hP hw hK;obtain⟨xs,x,hq,hx⟩:=hg;obtain⟨its,rv,p,hz⟩:=I.tuple hq;obtain⟨u,hu,ru⟩:=rv.get hx;obtain⟨f0,f1,f2,f3,f4,f5⟩:=hf it (by simp)
  refine wpAny_pyNext_tuple_item st (show s.heap.IsTuple a its.toArray from p) (x:=u) (by simpa using hu) fun h' st' sb=>?_
  have I1:Inv X pins σ H { s with heap:=h' }:=I.turned (t':=s.toks) (fun b o hb e=>(sb.2 b hb).trans e) f0 f1 f3 f4 f5
  obtain⟨o,e,c,d⟩:=id st';exact⟨u,rfl,zby (s:={ s with heap:=h' }) e c d #[1] ⟨x,H,I1,ru,⟨rfl,fun ys hy=>by rw [I.tuple_inj hy hq];exact hx⟩,st',fun b hb=>(hf b hb).1⟩⟩
 done:=by
  intro X hP hw hK hc i pins s σ H E I hf st hg;subst hP hw hK;obtain⟨xs,hq,hx⟩:=hg;obtain⟨its,rv,p,hz⟩:=I.tuple hq;obtain⟨f0,f1,f2,f3,f4,f5⟩:=hf it (by simp)
  have hl:=rv.length;exact wpAny_pyNext_tuple_end #[67] st (show s.heap.IsTuple a its.toArray from p) #[6] fun h' eb=>⟨rfl,I.turned (t':=s.toks) (fun b o hb e=>eb b o hb e) f0 f1 f3 f4 f5⟩
 self:=fun _ _ _ _ _ st h=>wpAny_pyIter_tupleiter st h
theorem zig{P:Program}{w:World}{K:Ybf}{tg:Expr}(it:Addr)(lo:Int)(n:Nat):Turn P w K tg (Itr lo n) [it] it (fun i h=>IsRangeIter h it (lo+(i:Nat)*1) ((n:Int) - (i:Nat)) 1) where
 mem:=by simp
 obj:=fun i h st b hb=>by
  have e:b=it:=by simpa using hb
  subst e;exact⟨_,st,fun v z=>by
   have z':Data.fields _=Data.cell v:=z;cases z'⟩
 keep:=fun i h h' st k=>k it (by simp) _ st
 item:=by
  intro X hP hw hK hc i pins s σ H E I hf st hg;subst hP hw hK;obtain⟨f0,f1,f2,f3,f4,f5⟩:=hf it (by simp)
  have W:=Walks.range (prog:=X.prog) (w:=X.w) #[67] it lo 1 n;refine W.item i s _ _ hg st fun v h' tk hv st' kk=>?_
  obtain⟨t,rfl⟩:=hv;have I1:Inv X pins σ H { s with heap:=h',toks:=tk }:=I.turned (fun b o hb e=>kk b o (by simpa using hb) e) f0 f1 f3 f4 f5
  refine⟨_,rfl,zby (s:={ s with heap:=h',toks:=tk }) (n:="range_iterator") st' rfl rfl #[1] ⟨.int (lo+i),H,I1,⟨t,?_⟩,⟨rfl,rfl⟩,st',fun b hb=>(hf b hb).1⟩⟩
  rw [Int.mul_one]
 done:=by
  intro X hP hw hK hc i pins s σ H E I hf st hg;subst hP hw hK;obtain⟨f0,f1,f2,f3,f4,f5⟩:=hf it (by simp)
  exact wpAny_pyNext_range_end #[67] st (by have:n<=i:=hg;omega) fun h' eb=>⟨rfl,I.turned (t':=s.toks) (fun b o hb e=>eb b o hb e) f0 f1 f3 f4 f5⟩
 self:=fun _ _ _ _ _ st h=>wpAny_pyIter_rangeiter st h
section
variable{X:Cx}{tg:Expr}
def zmw(K:Ybf)(tl:TE):TI:=fun σ H R=>tl σ H fun x H1=>∃ a,x=.ref a/\(∃ xs,SqL K H1 a xs)/\R (Itl K a) H1
def iTup(K:Ybf)(tl:TE):TI:=fun σ H R=>tl σ H fun x H1=>∃ a,x=.ref a/\(∃ xs,SqT K H1 a xs)/\R (Itt K a) H1
theorem zjQ{l:Expr}{tl:TE}(hl:PE X l tl):PI X tg l (zmw X.K tl):=by
 intro pins s σ H R I h;refine thn (hl pins s σ H _ I h) fun v s1 ⟨x,H1,I1,r1,q1⟩=>?_
 obtain⟨a,e,⟨xs,hq⟩,q⟩:=q1;subst e;cases r1;obtain⟨its,rv,p,hz⟩:=I1.list hq;refine wpAny_pyIter_list p.isList ?_;refine⟨s1.heap.objs.size,[s1.heap.objs.size],_,_,H1,rfl,I1.kept (t':=s1.toks) fun b o e=>YaW _ e,zg9 a _,⟨_,Yan _ rfl,rfl,rfl⟩,fun b hb=>?_,q⟩
 have e:b=s1.heap.objs.size:=by simpa using hb
 subst e;exact I1.fpOk (YaY _) (I1.hok.fresh (YaY _))
theorem zid{l:Expr}{tl:TE}(hl:PE X l tl):PI X tg l (iTup X.K tl):=by
 intro pins s σ H R I h;refine thn (hl pins s σ H _ I h) fun v s1 ⟨x,H1,I1,r1,q1⟩=>?_
 obtain⟨a,e,⟨xs,hq⟩,q⟩:=q1;subst e;cases r1;obtain⟨its,rv,p,hz⟩:=I1.tuple hq;refine wpAny_pyIter_tuple (show s1.heap.IsTuple a its.toArray from p) ?_
 refine⟨s1.heap.objs.size,[s1.heap.objs.size],_,_,H1,rfl,I1.kept (t':=s1.toks) fun b o e=>YaW _ e,zhb a _,⟨_,Yan _ rfl,rfl,rfl⟩,fun b hb=>?_,q⟩
 have e:b=s1.heap.objs.size:=by simpa using hb
 subst e;exact I1.fpOk (YaY _) (I1.hok.fresh (YaY _))
theorem zdl{pins:List #[17]}{σ : St}{H:Hp}{s:Shared}{R:It->Hp->Prop}{E:#[11]}{lo hi:Int}{t u v:Tok}{tk:Nat}(I:#[13])(h1:-(2 ^ 62)<=lo)(h2:lo<2 ^ 62)(h3:-(2 ^ 62)<=hi)(h4:hi<2 ^ 62)
 (q:R (Itr lo (hi - lo).toNat) H):wpAny #[12] X.A (pyIter #[38]) (PIE X pins σ tg R) E { s with heap:=s.heap.push { cls:=.type "range", data:=.fields #[.int lo t,.int hi u,.int 1 v] },toks:=tk }:=by
 refine wpAny_pyIter_range (IsRange.new ..) (small_one h1 h2 h3 h4) ?_
 have I1:Inv X pins σ H { s with heap:=s.heap.push { cls:=.type "range", data:=.fields #[.int lo t,.int hi u,.int 1 v] },toks:=tk }:=I.kept fun b o e=>YaW _ e
 refine⟨(s.heap.push { cls:=.type "range", data:=.fields #[.int lo t,.int hi u,.int 1 v] }).objs.size,[(s.heap.push { cls:=.type "range", data:=.fields #[.int lo t,.int hi u,.int 1 v] }).objs.size],_,_,H,rfl,
  I1.kept (t':=tk) fun b o e=>YaW _ e,zig _ lo (hi - lo).toNat,?_,fun b hb=>?_,q⟩
 . have e1:lo+((0:Nat):Int)*1=lo:=by simp
   have e2:(((hi - lo).toNat:Nat):Int) - ((0:Nat):Int)=Builtin.Range.rangeSize lo hi 1:=by rw [rangeSize_one];split<;>omega
   show IsRangeIter _ _ (lo+((0:Nat):Int)*1) ((((hi - lo).toNat:Nat):Int) - ((0:Nat):Int)) 1
   rw [e1,e2];exact Yan _ rfl
 . have e:b=(s.heap.push { cls:=.type "range", data:=.fields #[.int lo t,.int hi u,.int 1 v] }).objs.size:=by simpa using hb
   subst e;exact I1.fpOk (YaY _) (I1.hok.fresh (YaY _))
def zhF(ta:TA):TI:=fun σ H R=>ta σ H fun vs H1=>∃ j:Int,vs=[.int j]/\-(2 ^ 62)<=j/\j<2 ^ 62/\R (Itr 0 j.toNat) H1
def zhp(ta:TA):TI:=fun σ H R=>ta σ H fun vs H1=>∃ i j:Int,vs=[.int i,.int j]/\(-(2 ^ 62)<=i/\i<2 ^ 62/\-(2 ^ 62)<=j/\j<2 ^ 62)/\R (Itr i (j - i).toNat) H1
theorem zjb{a:Expr}{ta:TA}{p pos:Pos}(hg:Gl X "range")(hm:X.mg "range" = none)(ha:PA X [a] ta)(hs:starEach [a] X.env=[#[42]]:=by rfl):PI X tg (.Call (.Name "range" p) [a] [] pos) (zhF ta):=by
 intro pins s σ H R I h;refine Call_ (jU I hg hm boot_range (Wae (thn (ha pos pins s σ H _ I h) fun us s1 ⟨vs,H1,I1,r1,q1⟩=>?_) hs rfl))
 obtain⟨j,e,q1,q2,q⟩:=q1;subst e;cases r1 with
 | cons r rr=>
  cases rr;obtain⟨t,rfl⟩:=r
  exact call_range_1 (zdl I1 #[0] #[0] q1 q2 (by simpa using q))
theorem znf{a b:Expr}{ta:TA}{p pos:Pos}(hg:Gl X "range")(hm:X.mg "range" = none)(ha:PA X [a,b] ta)(hs:starEach [a,b] X.env=[#[42],#[41]]:=by rfl)(hs2:starEach [b] X.env=[#[41]]:=by rfl) :
 PI X tg (.Call (.Name "range" p) [a,b] [] pos) (zhp ta):=by
 intro pins s σ H R I h;refine Call_ (jU I hg hm boot_range (Wae (thn (ha pos pins s σ H _ I h) fun us s1 ⟨vs,H1,I1,r1,q1⟩=>?_) (by rw [hs,hs2]) (by rw [hs2];rfl)))
 obtain⟨i,j,e,⟨q1,q2,q3,q4⟩,q⟩:=q1;subst e;cases r1 with
 | cons r rr=>
  cases rr with
  | cons r' rr=>
   cases rr;obtain⟨t,rfl⟩:=r
   obtain⟨t',rfl⟩:=r';exact call_range_2 (zdl I1 q1 q2 q3 q4 q)
def tFor(wi:TI)(g:TG)(tb:TS):TS:=fun D σ H=>wi σ H fun J H1=>∃ W:Nat->Nat->St->Hp->Prop,(∃ m,W 0 m σ H1)/\∀ i m σ H,W i m σ H->
 (J.stop i H/\D.nx σ H)\/(J.go i H/\∃ N:St->Hp->Prop,(∀ σ' H',N σ' H'->∃ m',m'<m/\W (i+1) m' σ' H')/\∀ x H',J.yld i H x H'->g x σ H' fun σ2 H2=>tb { D with nx:=N,ct:=N,bk:=D.nx } σ2 H2)
def Zl(fp:#[55])(h:Heap):List #[17]:=fp.filterMap fun b=>(h.get? b).map fun o=>(b,o)
theorem zaT{fp:#[55]}{h:Heap}{b:Addr}{o:Obj}(hb:b∈fp)(e:h.get? b=some o):(b,o)∈Zl fp h:=List.mem_filterMap.mpr ⟨b,hb,by rw [e];rfl⟩
theorem ziX{fp:#[55]}{h:Heap}{p:Addr×Obj}(hp:p∈Zl fp h):p.1∈fp/\h.get? p.1=some p.2:=by
 obtain⟨b,hb,e⟩:=List.mem_filterMap.mp hp;cases q:h.get? b with
 | none=>rw [q] at e;cases e
 | some o=>
  rw [q] at e;have e':(b,o)=p:=Wba e;subst e';exact⟨hb,q⟩
theorem Inv.pinned{pins:List #[17]}{σ : St}{H:Hp}{s:Shared}{fp:#[55]}(I:#[13])(hf:∀ b∈fp,FpOk X pins H b)(ho:∀ b∈fp,∃ o,s.heap.get? b=some o/\∀ v,o.data≠.cell v):Inv X (pins++Zl fp s.heap) σ H s:=
 I.pins_of fun p hp=>(Ya3.mp hp).elim (fun z=>I.pin p (Yaa _ z)) fun z=>by
  obtain⟨hb,e⟩:=ziX z;obtain⟨f0,f1,f2,_⟩:=hf p.1 hb;obtain⟨o,e',d⟩:=ho p.1 hb;rw [e] at e';cases e';exact⟨e,f0,f1,f2,d⟩
theorem Inv.unpinned{pins pl:List #[17]}{σ : St}{H:Hp}{s:Shared}(I:Inv X (pins++pl) σ H s):Inv X pins σ H s:=I.pins_of fun p hp=>I.pin p (Yaa _ (Yai _ hp))
theorem zh4{iter:Expr}{body:List Stmt}{wi:TI}{g:TG}{tb:TS}{pos:Pos}(hp:PassesOwn #[12] X.A X.env X.xe)(hc:X.calm=true)(hi:PI X tg iter wi)(hg:PG X tg g)(hb:PSs X body tb)
 (hs:∀ x,foldedSetIterable iter X.env x=pure x:=by intro _;rfl):PS X (.For tg iter body [] pos) (tFor wi g tb):=by
 intro pins s σ H D I h;refine wpAny_For (thn (hi pins s σ H _ I h) fun v s1 h1=>thn h1 fun itv s2 h2=>?_) hs
 obtain⟨it,fp,tn,J,H2,e,I2,T,st2,f2,W,⟨m0,w0⟩,turn⟩:=h2;subst e;have stat:∀ {H':Hp},(∀ b∈fp,H' b=none)->∀ b∈fp,FpOk X pins H' b:=fun hn b hb=>⟨hn b hb,(f2 b hb).2⟩
 refine codeAny_forLoop_any (fun n s'=>∃ i σ' H',Inv X pins σ' H' s'/\tn i s'.heap/\(∀ b∈fp,H' b=none)/\W i n σ' H') ?_ m0 ⟨0,σ,H2,I2,st2,fun b hb=>(f2 b hb).1,w0⟩
 rintro n s3 ⟨i,σ3,H3,I3,st3,fr3,w3⟩
 rcases turn i n σ3 H3 w3 with ⟨stop,qn⟩|⟨go,N,hN,step⟩
 . refine wpAny_passesOwn hp (thn (T.done X rfl rfl rfl hc i pins s3 σ3 H3 X.xe I3 (stat fr3) st3 stop) fun r s4 ⟨hr,I4⟩=>?_)
   subst hr;exact wpAny_execs_nil ⟨σ3,H3,I4,qn⟩
 . refine wpAny_passesOwn hp (thn (T.item X rfl rfl rfl hc i pins s3 σ3 H3 X.xe I3 (stat fr3) st3 go) fun r s4 ⟨u,hr,h4⟩=>?_)
   subst hr;refine wpAny_passesOwn hp (thn h4 fun _ s5 ⟨x,H5,I5,r5,y5,st5,fr5⟩=>?_)
   have I5':=I5.pinned (stat fr5) (T.obj _ _ st5);refine wpAny_passesOwn hp (thn (hg _ s5 σ3 H5 x u _ I5' r5 (step x H5 y5)) fun _ s6 ⟨σ6,H6,I6,q6⟩=>?_)
   refine wpAny_passesOwn hp (thn (hb _ s6 σ6 H6 _ I6 q6) fun f s7 q7=>?_)
   have again:∀ {σ7:St} {H7:Hp},Inv X (pins++Zl fp s5.heap) σ7 H7 s7->N σ7 H7->∃ m,m<n/\∃ i σ' H',Inv X pins σ' H' s7/\tn i s7.heap/\(∀ b∈fp,H' b=none)/\W i m σ' H':=fun {σ7 H7} I7 n7=>by
    obtain⟨m',hm,w7⟩:=hN σ7 H7 n7;refine⟨m',hm,i+1,σ7,H7,I7.unpinned,T.keep _ _ _ st5 fun b hb o e=>(I7.pin (b,o) (Yaa _ (Yaa _ (zaT hb e)))).1,fun b hb=>?_,w7⟩
    obtain⟨o,e,d⟩:=T.obj _ _ st5 b hb;exact(I7.pin (b,o) (Yaa _ (Yaa _ (zaT hb e)))).2.1
   cases f with
   | next=>obtain⟨σ7,H7,I7,n7⟩:=q7;exact again I7 n7
   | cont=>obtain⟨σ7,H7,I7,n7⟩:=q7;exact again I7 n7
   | brk=>obtain⟨σ7,H7,I7,q7⟩:=q7;exact⟨σ7,H7,I7.unpinned,q7⟩
   | ret v=>obtain⟨x7,σ7,H7,I7,r7,q7⟩:=q7;exact⟨x7,σ7,H7,I7.unpinned,r7,q7⟩
end
theorem je{K:Ybf}{a:Addr}{xs:List V}{g:TG}{tb:TS}{D:Ends}{σ : St}{H:Hp}(Pv:Nat->St->Hp->Prop)(h0:Pv 0 σ H)(hl:∀ i σ H,i<=xs.length->Pv i σ H->SqL K H a xs)
 (hs:∀ i x σ H,xs[i]?=some x->Pv i σ H->g x σ H fun σ2 H2=>tb { D with nx:=Pv (i+1),ct:=Pv (i+1),bk:=D.nx } σ2 H2) (hd:∀ σ H,Pv xs.length σ H->D.nx σ H) :
 ∃ W:Nat->Nat->St->Hp->Prop,(∃ m,W 0 m σ H)/\∀ i m σ H,W i m σ H->
  ((Itl K a).stop i H/\D.nx σ H)\/((Itl K a).go i H/\∃ N:St->Hp->Prop,(∀ σ' H',N σ' H'->∃ m',m'<m/\W (i+1) m' σ' H')/\∀ x H',(Itl K a).yld i H x H'->g x σ H' fun σ2 H2=>tb { D with nx:=N,ct:=N,bk:=D.nx } σ2 H2):=by
 refine⟨fun i m σ H=>m=xs.length - i/\i<=xs.length/\Pv i σ H,⟨xs.length,by simp,WbF _,h0⟩,?_⟩
 rintro i m σ H ⟨rfl,hi,p⟩
 have q:=hl i σ H hi p
 by_cases hlt:i<xs.length
 . refine .inr ⟨⟨xs,xs[i],q,by simp [hlt]⟩,Pv (i+1),fun σ' H' p'=>⟨xs.length - (i+1),#[0],rfl,hlt,p'⟩,fun x H' y=>?_⟩
   obtain⟨e,y⟩:=y;subst e;exact hs i x σ _ (y xs q) p
 . have e:i=xs.length:=#[0]
   subst e;exact .inl ⟨⟨xs,q,YaY _⟩,hd σ H p⟩
theorem JP{c:TT}{tb:TS}{D:Ends}{σ : St}{H:Hp}(Pv:St->Hp->Prop)(μ : St->Hp->Nat)(h0:Pv σ H)
 (hs:∀ σ H,Pv σ H->c σ H fun b H1=>if b=true then tb { D with nx:=fun σ' H'=>Pv σ' H'/\μ σ' H' < μ σ H,ct:=fun σ' H'=>Pv σ' H'/\μ σ' H' < μ σ H,bk:=D.nx } σ H1 else D.nx σ H1)
 (mono:∀ σ H Q Q',(∀ b H1,Q b H1->Q' b H1)->c σ H Q->c σ H Q'):zeq c tb D σ H:=by
 refine⟨fun m σ H=>m = μ σ H/\Pv σ H,⟨_,rfl,h0⟩,?_⟩
 rintro m σ H ⟨rfl,p⟩
 refine mono σ H _ _ (fun b H1 q=>?_) (hs σ H p)
 cases b with
 | true=>exact⟨_,fun σ' H' ⟨p',l⟩=>⟨_,l,rfl,p'⟩,q⟩
 | false=>exact q
abbrev R2:=V->V->Hp->VK->Prop
def OpR(X:Cx)(f:#[66])(r:R2):Prop:=
 ∀ (pins:List #[17]) (s:Shared) (σ : St) (H:Hp) (x y:V) (v u:Value) (Q:VK),Inv X pins σ H s->RelV x v->RelV y u->r x y H Q->
  wpAny #[12] X.A (f v u) (EP X pins σ Q) X.xe s
def UnR(X:Cx)(f:Value->Sem Value)(r:V->Hp->VK->Prop):Prop:=
 ∀ (pins:List #[17]) (s:Shared) (σ : St) (H:Hp) (x:V) (v:Value) (Q:VK),Inv X pins σ H s->RelV x v->r x H Q->
  wpAny #[12] X.A (f v) (EP X pins σ Q) X.xe s
def zG(X:Cx)(f:Value)(r:List V->Hp->VK->Prop):Prop:=
 ∀ (pins:List #[17]) (s:Shared) (σ : St) (H:Hp) (xs:List V) (us:#[28]) (Q:VK),Inv X pins σ H s->Vals xs us->r xs H Q->
  wpAny #[12] X.A (call f us) (EP X pins σ Q) X.xe s
def tOp(r:R2)(ta tb:TE):TE:=fun σ H Q=>ta σ H fun x H1=>tb σ H1 fun y H2=>r x y H2 Q
def tUn(r:V->Hp->VK->Prop)(ta:TE):TE:=fun σ H Q=>ta σ H fun x H1=>r x H1 Q
def rI(C:Int->Int->Prop)(g:Int->Int->V):R2:=fun x y H Q=>∃ i j,x=.int i/\y=.int j/\C i j/\Q (g i j) H
def rI0(g:Int->Int->V):R2:=fun x y H Q=>∃ i j,x=.int i/\y=.int j/\Q (g i j) H
def rU(g:Int->V):V->Hp->VK->Prop:=fun x H Q=>∃ i,x=.int i/\Q (g i) H
section
variable{X:Cx}{a b c:Expr}{ta tb tc:TE}{pos:Pos}
theorem binT(ha:PE X a ta)(hb:PE X b tb){pins:List #[17]}{s:Shared}{σ : St}{H:Hp}{R:V->V->Hp->Prop}(I:#[13])
 (h:ta σ H fun x H1=>tb σ H1 fun y H2=>R x y H2) {Q:#[11]} {f:#[66]}
 (hf:∀ v u s2 x y H2,Inv X pins σ H2 s2->RelV x v->RelV y u->R x y H2->wpAny #[12] X.A (f v u) Q X.xe s2) :
 wpAny #[12] X.A (eval a X.env) (fun v s₁=>wpAny #[12] X.A (eval b X.env) (fun u s₂=>wpAny #[12] X.A (f v u) Q X.xe s₂) X.xe s₁) X.xe s:=by
 refine thn (ha pins s σ H _ I h) fun v s1 ⟨x,H1,I1,r1,q1⟩=>?_
 refine thn (hb pins s1 σ H1 _ I1 q1) fun u s2 ⟨y,H2,I2,r2,q2⟩=>?_
 exact hf v u s2 x y H2 I2 r1 r2 q2
theorem zd2{op:Operator}{r:R2}(ho:OpR X (binaryOp op) r)(ha:PE X a ta)(hb:PE X b tb):PE X (.BinOp a op b pos) (tOp r ta tb):=by
 intro pins s σ H Q I h;exact wpAny_BinOp (binT ha hb I h fun v u s2 x y H2 I2 rx ry q=>ho pins s2 σ H2 x y v u Q I2 rx ry q)
theorem zjJ{op:UnaryOp}{r:V->Hp->VK->Prop}(ho:UnR X (unaryOp op) r)(ha:PE X a ta):PE X (.UnaryOp op a pos) (tUn r ta):=by
 intro pins s σ H Q I h;exact UnaryOp_ (thn (ha pins s σ H _ I h) fun v s1 ⟨x,H1,I1,r1,q1⟩=>ho pins s1 σ H1 x v Q I1 r1 q1)
theorem opI{f:#[66]}{C:Int->Int->Prop}{g:Int->Int->Int}
 (rule:∀ (i j:Int) (t u:Tok) (s:Shared) (Q:#[11]) (E:#[11]),C i j->Q (.int (g i j) s.toks) { s with toks:=s.toks+1 }->wpAny #[12] X.A (f (.int i t) (.int j u)) Q E s) :
 OpR X f (rI C fun i j=>.int (g i j)):=by
 intro pins s σ H x y v u Q I rx ry h;obtain⟨i,j,rfl,rfl,hc,q⟩:=h;obtain⟨t,rfl⟩:=rx;obtain⟨t',rfl⟩:=ry;exact rule i j t t' s _ _ hc ⟨.int (g i j),H,I.tok _,⟨_,rfl⟩,q⟩
theorem opI0{f:#[66]}{g:Int->Int->Int}
 (rule:∀ (i j:Int) (t u:Tok) (s:Shared) (Q:#[11]) (E:#[11]),Q (.int (g i j) s.toks) { s with toks:=s.toks+1 }->wpAny #[12] X.A (f (.int i t) (.int j u)) Q E s) :
 OpR X f (rI0 fun i j=>.int (g i j)):=by
 intro pins s σ H x y v u Q I rx ry h;obtain⟨i,j,rfl,rfl,q⟩:=h;obtain⟨t,rfl⟩:=rx;obtain⟨t',rfl⟩:=ry;exact rule i j t t' s _ _ ⟨.int (g i j),H,I.tok _,⟨_,rfl⟩,q⟩
theorem opB0{f:#[66]}{g:Int->Int->Bool}
 (rule:∀ (i j:Int) (t u:Tok) (s:Shared) (Q:#[11]) (E:#[11]),Q (.bool (g i j)) s->wpAny #[12] X.A (f (.int i t) (.int j u)) Q E s) :
 OpR X f (rI0 fun i j=>.bl (g i j)):=by
 intro pins s σ H x y v u Q I rx ry h;obtain⟨i,j,rfl,rfl,q⟩:=h;obtain⟨t,rfl⟩:=rx;obtain⟨t',rfl⟩:=ry;exact rule i j t t' s _ _ ⟨.bl (g i j),H,I,rfl,q⟩
def CMul(i j:Int):Prop:=(-(2 ^ 64)<i/\i<2 ^ 64)\/(-(2 ^ 64)<j/\j<2 ^ 64)
theorem CMul.ok{i j:Int}(h:CMul i j):IntMulOk i j:=by
 rcases h with ⟨h1,h2⟩|⟨h1,h2⟩
 . exact .of_left (intBits_le_64 h1 h2)
 . exact .of_right (intBits_le_64 h1 h2)
theorem zhA:OpR X (binaryOp .Add) (rI0 fun i j=>.int (i+j)):=opI0 fun _ _ _ _ _ _ _ q=>add_int q
theorem zl5:OpR X (binaryOp .Sub) (rI0 fun i j=>.int (i - j)):=opI0 fun _ _ _ _ _ _ _ q=>sub_int q
theorem zhW:OpR X (binaryOp .Mod) (rI (fun _ j=>0<j) fun i j=>.int (i%j)):=opI fun i j _ _ _ _ _ hc q=>by
 have h1:(0:Int)<j:=hc;exact mod_int' #[0] (by rw [Int.fmod_eq_emod_of_nonneg i #[0]];exact q)
theorem unI{f:Value->Sem Value}{g:Int->Int}
 (rule:∀ (i:Int) (t:Tok) (s:Shared) (Q:#[11]) (E:#[11]),Q (.int (g i) s.toks) { s with toks:=s.toks+1 }->wpAny #[12] X.A (f (.int i t)) Q E s) :
 UnR X f (rU fun i=>.int (g i)):=by
 intro pins s σ H x v Q I rx h;obtain⟨i,rfl,q⟩:=h;obtain⟨t,rfl⟩:=rx;exact rule i t s _ _ ⟨.int (g i),H,I.tok _,⟨_,rfl⟩,q⟩
theorem zit:UnR X (unaryOp .USub) (rU fun i=>.int (-i)):=unI fun _ _ _ _ _ q=>neg_int q
end
def scal:V->V->Bool
 | .non,.non=>true|.non,.int _=>true|.int _,.non=>true|.non,.bl _=>true|.bl _,.non=>true|.non,.str _=>true|.str _,.non=>true
 | .int _,.int _=>true|.bl _,.bl _=>true|.str _,.str _=>true|.byt _,.byt _=>true
 | .int _,.str _=>true|.str _,.int _=>true|.bl _,.str _=>true|.str _,.bl _=>true
 | _,_=>false
def rEq:R2:=fun x y H Q=>scal x y=true/\Q (.bl (decide (x=y))) H
def rNe:R2:=fun x y H Q=>scal x y=true/\Q (.bl (!decide (x=y))) H
theorem zeM{i j:Int}:decide (V.int i=V.int j)=(i==j):=by
 rw [Wbb]
 simp
theorem ze3{i j:Bool}:decide (V.bl i=V.bl j)=(i==j):=by
 rw [Wbb]
 simp
theorem zfO{i j:Str}:decide (V.str i=V.str j)=(i==j):=by
 rw [Wbb]
 simp
theorem zew{i j:Array UInt8}:decide (V.byt i=V.byt j)=(i.toList==j.toList):=by
 rw [Wbb];cases i;cases j
 simp
section
variable{X:Cx}{a b c:Expr}{ta tb tc:TE}{pos:Pos}
theorem zI{pins:List #[17]}{σ : St}{H:Hp}{s:Shared}{Q:VK}{k k':Bool}(I:#[13])(q:Q (.bl k) H)(e:k=k'):EP X pins σ Q (.bool k') s:=by
 subst e;exact⟨.bl k,H,I,rfl,q⟩
theorem zjf:OpR X (compareOp .Eq) rEq:=by
 intro pins s σ H x y v u Q I rx ry h;obtain⟨hs,q⟩:=h;cases x with
 | non=>
  cases rx;cases y with
  | non=>cases ry;exact PySem.EqNone.eq_none_none (zI I q (by simp))
  | bl j=>cases ry;exact PySem.EqNone.eq_none_bool (zI I q (by simp))
  | int j=>obtain⟨t',rfl⟩:=ry;exact PySem.EqNone.eq_none_int (zI I q (by simp))
  | str j=>obtain⟨t',rfl⟩:=ry;exact PySem.EqNone.eq_none_str (zI I q (by simp))
  | _=>exact absurd #[47] Yal
 | bl i=>
  cases rx;cases y with
  | non=>cases ry;exact PySem.EqNone.eq_bool_none (zI I q (by simp))
  | bl j=>cases ry;exact eq_bool (zI I q ze3)
  | str j=>obtain⟨t',rfl⟩:=ry;exact PySem.EqMixed.eq_bool_str (zI I q (by simp))
  | _=>exact absurd #[47] Yal
 | int i=>
  obtain⟨t,rfl⟩:=rx;cases y with
  | non=>cases ry;exact PySem.EqNone.eq_int_none (zI I q (by simp))
  | int j=>obtain⟨t',rfl⟩:=ry;exact eq_int (zI I q zeM)
  | str j=>obtain⟨t',rfl⟩:=ry;exact PySem.EqMixed.eq_int_str (zI I q (by simp))
  | _=>exact absurd #[47] Yal
 | str i=>
  obtain⟨t,rfl⟩:=rx;cases y with
  | non=>cases ry;exact PySem.EqNone.eq_str_none (zI I q (by simp))
  | bl j=>cases ry;exact PySem.EqMixed.eq_str_bool (zI I q (by simp))
  | int j=>obtain⟨t',rfl⟩:=ry;exact PySem.EqMixed.eq_str_int (zI I q (by simp))
  | str j=>obtain⟨t',rfl⟩:=ry;exact eq_str (zI I q zfO)
  | _=>exact absurd #[47] Yal
 | byt i=>
  obtain⟨t,rfl⟩:=rx;cases y with
  | byt j=>obtain⟨t',rfl⟩:=ry;exact PySem.W.eq_bytes (zI I q zew)
  | _=>exact absurd #[47] Yal
 | _=>cases y<;>exact absurd #[47] Yal
theorem zjo:OpR X (compareOp .NotEq) rNe:=by
 intro pins s σ H x y v u Q I rx ry h;obtain⟨hs,q⟩:=h;cases x with
 | non=>
  cases rx;cases y with
  | non=>cases ry;exact PySem.EqNone.ne_none_none (zI I q (by simp))
  | bl j=>cases ry;exact PySem.EqNone.ne_none_bool (zI I q (by simp))
  | int j=>obtain⟨t',rfl⟩:=ry;exact PySem.EqNone.ne_none_int (zI I q (by simp))
  | str j=>obtain⟨t',rfl⟩:=ry;exact PySem.EqNone.ne_none_str (zI I q (by simp))
  | _=>exact absurd #[47] Yal
 | bl i=>
  cases rx;cases y with
  | non=>cases ry;exact PySem.EqNone.ne_bool_none (zI I q (by simp))
  | bl j=>cases ry;exact ne_bool (zI I q (congrArg not ze3))
  | str j=>obtain⟨t',rfl⟩:=ry;exact PySem.EqMixed.ne_bool_str (zI I q (by simp))
  | _=>exact absurd #[47] Yal
 | int i=>
  obtain⟨t,rfl⟩:=rx;cases y with
  | non=>cases ry;exact PySem.EqNone.ne_int_none (zI I q (by simp))
  | int j=>obtain⟨t',rfl⟩:=ry;exact ne_int (zI I q (congrArg not zeM))
  | str j=>obtain⟨t',rfl⟩:=ry;exact PySem.EqMixed.ne_int_str (zI I q (by simp))
  | _=>exact absurd #[47] Yal
 | str i=>
  obtain⟨t,rfl⟩:=rx;cases y with
  | non=>cases ry;exact PySem.EqNone.ne_str_none (zI I q (by simp))
  | bl j=>cases ry;exact PySem.EqMixed.ne_str_bool (zI I q (by simp))
  | int j=>obtain⟨t',rfl⟩:=ry;exact PySem.EqMixed.ne_str_int (zI I q (by simp))
  | str j=>obtain⟨t',rfl⟩:=ry;exact ne_str (zI I q (congrArg not zfO))
  | _=>exact absurd #[47] Yal
 | byt i=>
  obtain⟨t,rfl⟩:=rx;cases y with
  | byt j=>obtain⟨t',rfl⟩:=ry;exact PySem.W.ne_bytes (zI I q (congrArg not zew))
  | _=>exact absurd #[47] Yal
 | _=>cases y<;>exact absurd #[47] Yal
theorem zlW:OpR X (compareOp .Lt) (rI0 fun i j=>.bl (decide (i<j))):=opB0 fun _ _ _ _ _ _ _ q=>lt_int q
theorem zjD:OpR X (compareOp .LtE) (rI0 fun i j=>.bl (decide (i<=j))):=opB0 fun _ _ _ _ _ _ _ q=>le_int q
theorem ziV:OpR X (compareOp .Gt) (rI0 fun i j=>.bl (decide (j<i))):=opB0 fun _ _ _ _ _ _ _ q=>gt_int q
theorem ziQ:OpR X (compareOp .GtE) (rI0 fun i j=>.bl (decide (j<=i))):=opB0 fun _ _ _ _ _ _ _ q=>ge_int q
theorem zjY:OpR X (compareOp .Is) (fun x y H Q=>y=.non/\Q (.bl (decide (x=.non))) H):=by
 intro pins s σ H x y v u Q I rx ry h;obtain⟨rfl,q⟩:=h;cases ry;refine is_none_gen (zI I q ?_);cases x<;>first
  | (cases rx;rfl)
  | (obtain⟨t,rfl⟩:=rx;rfl)
theorem zi3:OpR X (compareOp .IsNot) (fun x y H Q=>y=.non/\Q (.bl (!decide (x=.non))) H):=by
 intro pins s σ H x y v u Q I rx ry h;obtain⟨rfl,q⟩:=h;cases ry;refine isnot_none_gen (zI I q ?_);cases x<;>first
  | (cases rx;rfl)
  | (obtain⟨t,rfl⟩:=rx;rfl)
theorem OpR.or{f:#[66]}{r r':R2}(h:OpR X f r)(h':OpR X f r'):OpR X f (fun x y H Q=>r x y H Q\/r' x y H Q):=by
 intro pins s σ H x y v u Q I rx ry q
 rcases q with q|q
 . exact h pins s σ H x y v u Q I rx ry q
 . exact h' pins s σ H x y v u Q I rx ry q
theorem nomark(b:Expr){op:CmpOp}(h:op≠.In:=by decide)(h2:op≠.NotIn:=by decide):behindInMarks op b=false:=by
 have e1:(op==CmpOp.In)=false:=by cases op<;>first|rfl|exact absurd rfl h
 have e2:(op==CmpOp.NotIn)=false:=by cases op<;>first|rfl|exact absurd rfl h2
 cases b<;>simp [behindInMarks,e1,e2]
theorem znj{op:CmpOp}{r:R2}(ho:OpR X (compareOp op) r)(ha:PE X a ta)(hb:PE X b tb)(hm:behindInMarks op b=false):PE X (.Compare a [op] [b] pos) (tOp r ta tb):=by
 intro pins s σ H Q I h;exact wpAny_Compare1 (binT ha hb I h fun v u s2 x y H2 I2 rx ry q=>ho pins s2 σ H2 x y v u Q I2 rx ry q) hm
def ZQ(t:TE):TT:=fun σ H Q=>t σ H fun x H'=>∃ k,x=.bl k/\Q k H'
theorem zki{op:CmpOp}{r:R2}(ho:OpR X (compareOp op) r)(ha:PE X a ta)(hb:PE X b tb)(hm:behindInMarks op b=false):PT X (.Compare a [op] [b] pos) (ZQ (tOp r ta tb)):=by
 intro pins s σ H Q I h;refine wpAny_isTrue_Compare1 (thn (ha pins s σ H _ I h) fun v s1 ⟨x,H1,I1,r1,q1⟩=>thn (hb pins s1 σ H1 _ I1 q1) fun u s2 ⟨y,H2,I2,r2,q2⟩=>
  thn (ho pins s2 σ H2 x y v u _ I2 r1 r2 q2) fun c s3 ⟨z,H3,I3,r3,k,e,q3⟩=>?_) hm
 subst e;cases r3;exact wpAny_truthy_bool ⟨H3,I3,q3⟩
def zgF(r r':R2)(ta tb tc:TE):TE:=fun σ H Q=>ta σ H fun x H1=>tb σ H1 fun y H2=>r x y H2 fun z H3=>∃ k,z=.bl k/\
 (if k=true then tc σ H3 fun w' H4=>r' y w' H4 Q else Q (.bl false) H3)
theorem zkw{op op':CmpOp}{r r':R2}(ho:OpR X (compareOp op) r)(ho':OpR X (compareOp op') r')(ha:PE X a ta)(hb:PE X b tb)(hc:PE X c tc)
 (hm:lastMarks [op,op'] [b,c]=false:=by with_unfolding_all rfl):PT X (.Compare a [op,op'] [b,c] pos) (ZQ (zgF r r' ta tb tc)):=by
 intro pins s σ H Q I h;refine isTrue_chain (thn (ha pins s σ H _ I h) fun v s1 ⟨x,H1,I1,r1,q1⟩=>test_link (thn (hb pins s1 σ H1 _ I1 q1) fun u s2 ⟨y,H2,I2,r2,q2⟩=>
  thn (ho pins s2 σ H2 x y v u _ I2 r1 r2 q2) fun d s3 ⟨z,H3,I3,r3,k,e,q3⟩=>?_)) hm
 subst e;cases r3;refine wpAny_truthy_bool ?_;cases k with
 | false=>
  obtain⟨k',e',q'⟩:=q3;cases e';exact ite_ff ⟨H3,I3,q'⟩
 | true=>
  refine ite_tt (test_last (thn (hc pins s3 σ H3 _ I3 q3) fun w' s4 ⟨z',H4,I4,r4,q4⟩=>thn (ho' pins s4 σ H4 y z' u w' _ I4 r2 r4 q4) fun d' s5 ⟨z2,H5,I5,r5,k2,e2,q5⟩=>?_))
  subst e2;cases r5;exact wpAny_truthy_bool ⟨H5,I5,q5⟩
theorem J5:(sizeLine:Nat)<2 ^ 63:=by rw [sizeLine_eq];decide
theorem zmn:OpR X (binaryOp .Add) (fun x y H Q=>∃ i j,x=.str i/\y=.str j/\i.length+j.length<=sizeLine/\Q (.str (i++j)) H):=by
 intro pins s σ H x y v u Q I rx ry h;obtain⟨i,j,rfl,rfl,hz,q⟩:=h;obtain⟨t,rfl⟩:=rx;obtain⟨t',rfl⟩:=ry;exact add_str (fun t' tk=>⟨.str (i++j),H,I.tok _,⟨_,rfl⟩,q⟩) hz
theorem jk{x:V}{us:#[28]}(r:Vals [x] us):∃ u,us=[u]/\RelV x u:=by
 cases r with
 | cons r1 r2=>cases r2;exact⟨_,rfl,r1⟩
theorem zcF{x y:V}{us:#[28]}(r:Vals [x,y] us):∃ u w',us=[u,w']/\RelV x u/\RelV y w':=by
 cases r with
 | cons r1 r2=>
  cases r2 with
  | cons r3 r4=>cases r4;exact⟨_,_,rfl,r1,r3⟩
theorem ziK:zG X (.builtin "abs") (fun xs H Q=>∃ i,xs=[.int i]/\Q (.int (if i<0 then -i else i)) H):=by
 intro pins s σ H xs us Q I r h;obtain⟨i,rfl,q⟩:=h;obtain⟨u,rfl,t,rfl⟩:=jk r;exact call_abs_int fun u tk=>⟨.int (if i<0 then -i else i),H,I.tok _,⟨_,rfl⟩,q⟩
theorem zm2(hc:X.calm=true):zG X (.builtin "min") (fun xs H Q=>∃ i j,xs=[.int i,.int j]/\Q (.int (if j<i then j else i)) H):=by
 intro pins s σ H xs us Q I r h;obtain⟨i,j,rfl,q⟩:=h;obtain⟨u,w',rfl,⟨t,rfl⟩,⟨t',rfl⟩⟩:=zcF r;refine min_two_ints #[67] fun h' tk k=>⟨_,H,I.kept k,?_,q⟩
 by_cases hj:j<i
 . rw [if_pos hj,if_pos hj];exact⟨_,rfl⟩
 . rw [if_neg hj,if_neg hj];exact⟨_,rfl⟩
end
structure ObjM(h:Heap)(x dx C:Addr)(mA:#[15]):Prop where
 obj:h.get? x=some (PySem.W.instObj C dx)
 ns:h.Ns1 dx mA
 ne:dx≠x
theorem zjr{h:Heap}{dx:Addr}{mA:#[15]}(n:h.Ns1 dx mA):∃ od,h.get? dx=some od/\∀ name,PySem.W.lookIn name od=some (mA name):=by
 obtain⟨o,es,ep,ho,hd,hk,_,hm⟩:=n;refine⟨o,ho,fun name=>?_⟩
 have e:=hm name;unfold nsFind findBy at e;rw [<-Array.find?_toList] at e;unfold PySem.W.lookIn;rw [hd];dsimp only
 split
 . rename_i y q
   rw [q] at e;exact congrArg some e
 . rename_i q
   rw [q] at e;have a:es.toList.any (·.refKey)=false:=by
    rw [List.any_eq_false];intro y hy;obtain⟨z,t,hkey⟩:=hk y (Array.mem_toList_iff.mp hy)
    simp [DictEntry.refKey,hkey]
   have a':¬es.toList.any (·.refKey)=true:=by rw [a];exact Yal
   rw [if_neg a'];exact congrArg some e
theorem ObjM.look{h:Heap}{x dx C:Addr}{mA:#[15]}(I:ObjM h x dx C mA):∃ od,PySem.W.InstAt h x (PySem.W.instObj C dx) C (some od)/\∀ name,PySem.W.lookIn name od=some (mA name):=
 let ⟨od,ho,hl⟩:=zjr I.ns
 ⟨od,⟨I.obj,rfl,rfl,ho⟩,hl⟩
section
variable{prog:Program}{w:World}{A:Around}{E:#[11]}{s:Shared}{K:Ybf}{x dx C f:Addr}{mA:#[15]}{name:Str}{v:Value}
end
theorem RelO.some_of{v:V}{o:Option Value}(r:RelO (some v) o):∃ u,o=some u/\RelV v u:=by
 cases o with
 | none=>exact(show False from r).elim
 | some u=>exact⟨u,rfl,r⟩
theorem RelO.none_of{o:Option Value}(r:RelO none o):o=none:=by
 cases o with
 | none=>rfl
 | some u=>exact(show False from r).elim
section
variable{P:Program}{w:World}{H H':Hp}{h h':Heap}{a C dx:Addr}{fs fs':List (Str×V)}
end
structure Cls(K:Ybf)(C:Addr):Prop where
 pg:PySem.W.plainGet K C Str.empty=true
 hd:PySem.W.hasDictIn K C=true
 po:PySem.W.plainOver K C=true
 sa:PySem.W.findIn K (.ref C) "__setattr__" = some (some (.builtin "object.__setattr__"))
theorem Cls.get{K:Ybf}{C:Addr}(c:Cls K C)(f:Str):PySem.W.plainGet K C f=true:=c.pg
def zdU(K:Ybf)(C:Addr)(f:Str):Prop:=PySem.W.findIn K (.ref C) f=some none
theorem zdU.taker{K:Ybf}{C:Addr}{f:Str}(n:zdU K C f):PySem.W.takerIn K C f=some none:=by
 unfold PySem.W.takerIn;rw [show PySem.W.findIn K (.ref C) f=some none from n]
 rfl
section
variable{X:Cx}{pins:List #[17]}{σ : St}{H:Hp}{s:Shared}{a C dx:Addr}{fs:List (Str×V)}{f:Str}{v:V}{A:Around}{E:#[11]}
theorem Inv.made(I:#[13]):Inv X pins σ (upd (upd H s.heap.objs.size (.own #[32])) #[32] (.ins C s.heap.objs.size []))
 { s with heap:=(s.heap.push PySem.W.emptyDict).push (PySem.W.instObj C s.heap.objs.size) }:=by
 have e1:(s.heap.push PySem.W.emptyDict).get? s.heap.objs.size=some PySem.W.emptyDict:=Yan s.heap rfl;have e2:((s.heap.push PySem.W.emptyDict).push (PySem.W.instObj C s.heap.objs.size)).get? #[32]=some (PySem.W.instObj C s.heap.objs.size):=by
  have:=Yan (s.heap.push PySem.W.emptyDict) (o:=PySem.W.instObj C s.heap.objs.size) rfl;rwa [Wbj] at this
 have e3:(s.heap.push PySem.W.emptyDict).Ns s.heap.objs.size (fun _=>none):=⟨PySem.W.emptyDict,#[],_,e1,rfl,(fun e he=>absurd he (by simp)),fun _=>rfl⟩
 have I1:=I.laid (a:=s.heap.objs.size) (o:=.own #[32]) (h':=s.heap.push PySem.W.emptyDict) (t':=s.toks) (fun b u q=>YaW _ q) (YaY _) ⟨_,e1⟩
 refine I1.laid (a:=s.heap.objs.size+1) (o:=.ins C s.heap.objs.size []) (t':=s.toks) (fun b u q=>YaW _ q) (Nat.le_of_eq (Wbj _ _)) ?_
 have ne:s.heap.objs.size≠s.heap.objs.size+1:=Yaf (Wa1 _);refine⟨by rw [zj ne,zt],WbF _,ne,e2,fun _=>none,(Heap.Ns1.of_empty e3).at fun o q=>YaW _ q,fun _=>True.intro,fun y hy=>absurd rfl hy⟩
end
section
variable{X:Cx}{o e value:Expr}{f:Str}{pos pos' tpos:Pos}{ta tv:TE}
end
section
variable{X:Cx}{pins:List #[17]}{σ : St}{H:Hp}{s:Shared}{A:Around}{E:#[11]}{Q:#[11]}{c:Value}{b:Bool}
end
structure Room(k:Nat)(A:Around):Prop where
 hd:A.handled=none
 dp:A.depth+3*k+5<recursionLimit
 un:A.units+16*k+200<cLine
theorem Room.mono{j k:Nat}{A:Around}(r:Room k A)(h:j<=k):Room j A:=⟨r.hd,by have:=r.dp;omega,by have:=r.un;omega⟩
theorem Room.deeper{k:Nat}{A:Around}(r:Room (k+1) A)(env:Env):Room k (A.deeper env):=
 ⟨r.hd,by have:=r.dp;show A.depth+1+3*k+5<_;omega,by have:=r.un;show A.units+3+16*k+200<_;omega⟩
theorem Room.in1{k:Nat}{A:Around}(r:Room (k+1) A):Room k A.in1:=
 ⟨r.hd,by have:=r.dp;show A.depth+3*k+5<_;omega,by have:=r.un;show A.units+1+16*k+200<_;omega⟩
theorem zlX{A:Around}{C:Addr}{us:#[28]}{kw:List (Str×Value)}:(A.under (.builtin "type.__call__" ⟨.ref C::us,kw⟩)).depth=A.depth+1:=by
 first|rfl|simp [Around.under,Code.weight,Code.isCreation,Code.isGuard,Code.isCaller,Code.frames,Code.isFrame,guardIds]
theorem ziY{A:Around}{C:Addr}{us:#[28]}{kw:List (Str×Value)}:(A.under (.builtin "type.__call__" ⟨.ref C::us,kw⟩)).units=A.units+1:=by
 first|rfl|simp [Around.under,Code.cUnits,Code.frames,Code.isFrame]
theorem Room.make{k:Nat}{A:Around}(r:Room (k+1) A)(C:Addr)(us:#[28])(kw:List (Str×Value)):Room k (A.under (.builtin "type.__call__" ⟨.ref C::us,kw⟩)):=
 ⟨r.hd,by have:=r.dp;rw [zlX];omega,by have:=r.un;rw [ziY];omega⟩
theorem Room.depth{k:Nat}{A:Around}(r:Room k A):A.depth<recursionLimit:=by have:=r.dp;omega
theorem Room.units{k:Nat}{A:Around}(r:Room k A):A.units+64<cLine:=by have:=r.un;omega
def tNil:TA:=fun _ H Q=>Q [] H
def zjP(ta:TE)(tr:TA):TA:=fun σ H Q=>ta σ H fun x H1=>tr σ H1 fun xs H2=>Q (x::xs) H2
section
variable{X:Cx}{e:Expr}{es:#[54]}{te:TE}{t:TA}{pos:Pos}
theorem jE:PA X [] tNil:=fun _ _ _ _ H Q I h=>Calls.spliced_nil ⟨[],H,I,.nil,h⟩
theorem jn(ha:PE X e te)(hr:PA X es t)(hs:#[14]:=by rfl):PA X (e::es) (zjP te t):=by
 intro pos pins s σ H Q I h;rw [hs];show wpAny _ _ (spliced ((false,eval e X.env)::backTo pos #[46])) _ _ s;refine Calls.spliced_cons (thn (ha pins s σ H _ I h) fun u s1 ⟨x,H1,I1,r1,q1⟩=>?_)
 exact thn (hr pos pins s1 σ H1 _ I1 q1) fun us s2 ⟨xs,H2,I2,r2,q2⟩=>⟨x::xs,H2,I2,.cons r1 r2,q2⟩
def tTup(t:TA):TE:=fun σ H Q=>t σ H fun xs H1=>xs.length<=sizeLine/\∀ p,H1 p=none->Q (.ref p) (upd H1 p (.tup xs))
def tLst(t:TA):TE:=fun σ H Q=>t σ H fun xs H1=>xs.length<=sizeLine/\∀ p,H1 p=none->Q (.ref p) (upd H1 p (.lst xs))
theorem zcK{x1}(h:PA X es t):PE X (.Tuple es x1 pos) (tTup t):=by
 intro pins s σ H Q I hq;refine wpAny_Tuple_spliced (thn (h pos pins s σ H _ I hq) fun us s1 ⟨xs,H1,I1,r,z,q⟩=>⟨by rw [<-r.length];exact z,?_⟩)
 have hf:H1 s1.heap.objs.size=none:=I1.hok.fresh (YaY _);refine⟨.ref s1.heap.objs.size,upd H1 s1.heap.objs.size (.tup xs),I1.laid (t':=s1.toks) (fun b u e=>YaW _ e) (YaY _) ?_,rfl,q _ hf⟩
 exact⟨z,us,r,⟨_,Yan _ rfl,rfl,_,rfl⟩⟩
theorem zeV(h:PA X es t):PE X (.List es pos) (tLst t):=by
 intro pins s σ H Q I hq;refine wpAny_List_spliced (thn (h pos pins s σ H _ I hq) fun us s1 ⟨xs,H1,I1,r,z,q⟩=>⟨by rw [<-r.length];exact z,?_⟩)
 have hf:H1 s1.heap.objs.size=none:=I1.hok.fresh (YaY _);refine⟨.ref s1.heap.objs.size,upd H1 s1.heap.objs.size (.lst xs),I1.laid (t':=s1.toks) (fun b u e=>YaW _ e) (YaY _) ?_,rfl,q _ hf⟩
 exact⟨z,us,0,r,Yan _ rfl⟩
end
abbrev Sp:=List V->Hp->VK->XK->Prop
abbrev CXT:=List Env->Hp->Shared->XK->Value->Shared->Prop
structure Env0(P:Program)(w:World)(K:Ybf)(mg:#[15])(base:Heap)(A:Around)(outer:List Env)(s:Shared)(H:Hp):Prop where
 frames:A.frames=some outer
 mod:Mod K mg base
 bs:∀ b o,base.get? b=some o->s.heap.get? b=some o/\H b=none
 bsz:base.objs.size<=s.heap.objs.size
 funs:s.heap.FunFrames base outer
 frf:∀ b∈frs outer,H b=none
 hok:HOk P w H s.heap
 bare:AllBare s.gens
def CE(outer:List Env)(P:Program)(w:World)(H:Hp)(s:Shared)(Q:VK)(u:Value)(s':Shared):Prop:=
 ∃ v H',s'.os=s.os/\AllBare s'.gens/\Un (frs outer) [] H H' s.heap s'.heap/\HOk P w H' s'.heap/\RelV v u/\Q v H'
def CR(CX:CXT)(outer:List Env)(P:Program)(w:World)(H:Hp)(s:Shared)(Q:VK)(E:XK)(r:Result)(s':Shared):Prop:=
 match r with
 | .ok (.ret u)=>CE outer P w H s Q u s'
 | .ok _=>False
 | .error e=>CX outer H s E e s'
structure FnOk(P:Program)(w:World)(K:Ybf)(mg:#[15])(base:Heap)(CX:CXT)(k:Nat)(f:Addr)(fd:FuncData)(ps:List Str)(sp:Sp):Prop where
 len:∀ vs H Q E,sp vs H Q E->vs.length=ps.length
 run:∀ (A:Around) (outer:List Env) (s:Shared) (H:Hp) (args:Args) (us:#[28]) (vs:List V) (Q:VK) (E:XK),Room k A->Env0 P w K mg base A outer s H->BindsTo s fd args (ps.zip us)->Vals vs us->sp vs H Q E->
  codeAny (model P w) A (.call (.ref f) args) (CR CX outer P w H s Q E) s
theorem FnOk.mono{P:Program}{w:World}{K:Ybf}{mg:#[15]}{base:Heap}{CX:CXT}{j k:Nat}{f:Addr}{fd:FuncData}{ps:List Str}{sp:Sp}(F:FnOk P w K mg base CX j f fd ps sp)(h:j<=k) :
 FnOk P w K mg base CX k f fd ps sp:=⟨F.len,fun A outer s H args us vs Q E hr=>F.run A outer s H args us vs Q E (hr.mono h)⟩
theorem FnOk.imp{P:Program}{w:World}{K:Ybf}{mg:#[15]}{base:Heap}{CX:CXT}{k:Nat}{f:Addr}{fd:FuncData}{ps:List Str}{sp sp':Sp}(F:FnOk P w K mg base CX k f fd ps sp)
 (h:∀ vs H Q E,sp' vs H Q E->sp vs H Q E):FnOk P w K mg base CX k f fd ps sp':=
 ⟨fun vs H Q E q=>F.len vs H Q E (h _ _ _ _ q),fun A outer s H args us vs Q E hr he hb hv hs=>F.run A outer s H args us vs Q E hr he hb hv (h _ _ _ _ hs)⟩
theorem Env0.make{P:Program}{w:World}{K:Ybf}{mg:#[15]}{base:Heap}{A:Around}{outer:List Env}{s:Shared}{H:Hp}(e:Env0 P w K mg base A outer s H)(C:Addr)(us:#[28])(kw:List (Str×Value)) :
 Env0 P w K mg base (A.under (.builtin "type.__call__" ⟨.ref C::us,kw⟩)) outer s H:=⟨by first|exact e.frames|(simpa [Around.under,Code.envs,Code.isFrame,pushEnvs] using e.frames),e.mod,e.bs,e.bsz,e.funs,e.frf,e.hok,e.bare⟩
theorem Env0.in1{P:Program}{w:World}{K:Ybf}{mg:#[15]}{base:Heap}{A:Around}{outer:List Env}{s:Shared}{H:Hp}(e:Env0 P w K mg base A outer s H) :
 Env0 P w K mg base A.in1 outer s H:=⟨e.frames,e.mod,e.bs,e.bsz,e.funs,e.frf,e.hok,e.bare⟩
section
variable{X:Cx}{pins:List #[17]}{σ : St}{H:Hp}{s s':Shared}
theorem Inv.env0(I:#[13]):Env0 X.prog X.w X.K X.mg X.base X.A X.stack s H:=
 ⟨I.ok.frames,I.ok.mod,I.bs,Ya5 I.ok.bsz I.sz,I.stack,I.stkFree,I.hok,I.bare⟩
theorem Inv.after{Q:VK}{u:Value}(I:#[13])(h:CE X.stack X.prog X.w H s Q u s'):EP X pins σ Q u s':=by
 obtain⟨v,H',os,bare,un,hok,r,q⟩:=h;obtain⟨hh,g,d,t,os'⟩:=s';obtain rfl:os'=s.os:=os;exact⟨v,H',I.call (h':=hh) (g':=g) (d':=d) (t':=t) (ch:=[]) un hok bare (fun b z=>absurd z (by simp)),r,q⟩
end
def zde(sp:Sp)(dvs:List V)(E:XK)(t:TA):TE:=fun σ H Q=>t σ H fun vs H1=>sp (vs++dvs) H1 Q E
def Binds(K:Ybf)(fd:FuncData)(ps:List Str)(ds:#[28]):Prop:=
 ∀ (s:Shared) (us:#[28]),K.In s.heap->(us++ds).length=ps.length->BindsTo s fd ⟨us,[]⟩ (ps.zip (us++ds))
theorem Binds.all{K:Ybf}{fd:FuncData}{ps:List Str}(h:∀ us:List Value,us.length=ps.length->bindArgs fd ⟨us,[]⟩=pure (ps.zip us)):Binds K fd ps []:=fun s us _ hl=>by
 rw [Yao] at hl ⊢;exact .of_eq (h us hl)
def Passes(CX:CXT)(X:Cx)(E:XK):Prop:=∀ (pins:List #[17]) (σ : St) (H:Hp) (s:Shared) (e:Value) (s':Shared),Inv X pins σ H s->CX X.stack H s E e s'->X.xe e s'
section
variable{X:Cx}{CX:CXT}{k:Nat}{f C:Addr}{fd:FuncData}{ps:List Str}{sp:Sp}{dvs:List V}{ds:#[28]}{E:XK}{x m:Str}{p pos apos:Pos}{e o:Expr}{es:#[54]}{ta:TE}{t:TA}
theorem zie{pins:List #[17]}{σ : St}{H:Hp}{s:Shared}{Q:VK}{us:#[28]}{vs:List V}(F:FnOk X.prog X.w X.K X.mg X.base CX k f fd ps sp)(hr:Room k X.A)(hb:Binds X.K fd ps ds)(hd:Vals dvs ds)(hx:Passes CX X E)
 (I:#[13]) (r:Vals vs us) (h:sp (vs++dvs) H Q E):wpAny #[12] X.A (call (.ref f) us) (EP X pins σ Q) X.xe s:=by
 have r2:Vals (vs++dvs) (us++ds):=r.append hd;have hl:(us++ds).length=ps.length:=by rw [<-r2.length];exact F.len _ _ _ _ h
 refine wpAny_call (codeAny_mono (F.run X.A X.stack s H ⟨us,[]⟩ (us++ds) (vs++dvs) Q E hr I.env0 (hb s us I.kIn hl) r2 h) fun r s' hq=>?_)
 cases r with
 | error e=>exact hx pins σ H s e s' I hq
 | ok fl=>
  cases fl with
  | ret u=>exact I.after hq
  | next=>exact False.elim hq
  | brk=>exact False.elim hq
  | cont=>exact False.elim hq
theorem zmv(F:FnOk X.prog X.w X.K X.mg X.base CX k f fd ps sp)(hr:Room k X.A)(hg:Gl X x)(hm:X.mg x=some (.ref f))(hk:PySem.W.keepIn X.K (.ref f)=true)(hb:Binds X.K fd ps ds)(hd:Vals dvs ds)(hx:Passes CX X E)
 (ha:PA X (e::es) t) (hdb:#[21]:=by decide) (he:#[14]:=by rfl) (hpl:(backTo pos #[46]).any (·.1)=false:=by rfl) :
 PE X #[30] (zde sp dvs E t):=by
 intro pins s σ H Q I h;refine wpAny_Call_Name_kw (zcN I hg hm ?_ hdb);refine PySem.W.callWith_K (h₀:=X.base) I.ok.mod.kin hk (thn (ha pos pins s σ H _ I h) fun us s1 ⟨vs,H1,I1,r,q⟩=>⟨I1.kIn,?_⟩) he hpl
 exact zie F hr hb hd hx I1 r q
end
section
variable{X:Cx}{CX:CXT}{k:Nat}{f C:Addr}{fd:FuncData}{ps ks:List Str}{sp:Sp}{E:XK}{x m:Str}{p pos apos kpos:Pos}{e o:Expr}{es:#[54]}{kws:List Keyword}{te ta:TE}{t tk:TA}{nm:Option Str}
variable{g:List Value->List Value->List Value}{gV:List V->List V->List V}
end
structure FnScope(N P:List Str)(sc:Scope):Prop where
 kind:sc.kind=.function
 co:sc.isCoroutine=false
 gen:sc.isGenerator=false
 nd:N.Nodup
 pre:N.take P.length=P
 par:∀ x∈P,sc.names.lookup x=some .local\/sc.names.lookup x=some .cell
 nofree:∀ y∈sc.names,y.2≠.free
theorem zfg{kindOf:Str->Option NameKind}{x:Str}:∀ {binds:List (Str×Value)} {m:#[15]},(∀ v,(x,v)∉binds)->bindL kindOf binds m x=m x
 | [],_,_=>rfl
 | (n, v) :: r, m, h => by
  unfold bindL;rw [zfg fun w hw=>h w (YaT _ hw)]
  split
  . have:x≠n:=by rintro rfl;exact h v YaV
    simp [this]
  . rfl
theorem zgt{kindOf:Str->Option NameKind}{x:Str}:∀ {binds:List (Str×Value)} {m:#[15]},(∀ v,(x,v)∉binds)->bindC kindOf binds m x=m x
 | [],_,_=>rfl
 | (n, v) :: r, m, h => by
  unfold bindC;rw [zgt fun w hw=>h w (YaT _ hw)]
  split
  . rfl
  . have:x≠n:=by rintro rfl;exact h v YaV
    simp [this]
theorem zek{kindOf:Str->Option NameKind}{x:Str}{v:Value}:∀ {P:List Str} {vs:#[28]} {i:Nat} {m:#[15]},P.Nodup->P[i]?=some x->vs[i]?=some v->kindOf x=some .local->
 bindL kindOf (P.zip vs) m x=some v
 | [],_,_,_,_,h,_,_=>by simp at h
 | _::_,[],_,_,_,_,h,_=>by simp at h
 | p :: P, w :: vs, 0, m, nd, h1, h2, hk => by
  simp at h1 h2;subst h1;subst h2
  show bindL kindOf ((p,w)::P.zip vs) m p=_
  unfold bindL;rw [zfg fun v hv=>(YaB.mp nd).1 (Wbc hv).1,if_pos hk]
  simp
 | p :: P, w :: vs, i + 1, m, nd, h1, h2, hk => by
  show bindL kindOf ((p,w)::P.zip vs) m x=_
  unfold bindL;exact zek (i:=i) (YaB.mp nd).2 (by simpa using h1) (by simpa using h2) hk
theorem zf8{kindOf:Str->Option NameKind}{x:Str}{v:Value}:∀ {P:List Str} {vs:#[28]} {i:Nat} {m:#[15]},P.Nodup->P[i]?=some x->vs[i]?=some v->kindOf x≠some .local->
 bindC kindOf (P.zip vs) m x=some v
 | [],_,_,_,_,h,_,_=>by simp at h
 | _::_,[],_,_,_,_,h,_=>by simp at h
 | p :: P, w :: vs, 0, m, nd, h1, h2, hk => by
  simp at h1 h2;subst h1;subst h2
  show bindC kindOf ((p,w)::P.zip vs) m p=_
  unfold bindC;rw [zgt fun v hv=>(YaB.mp nd).1 (Wbc hv).1,if_neg hk]
  simp
 | p :: P, w :: vs, i + 1, m, nd, h1, h2, hk => by
  show bindC kindOf ((p,w)::P.zip vs) m x=_
  unfold bindC;exact zf8 (i:=i) (YaB.mp nd).2 (by simpa using h1) (by simpa using h2) hk
def start(N:List Str)(vs:List V):St:=vs.map some++List.replicate (N.length - vs.length) none
def cxOf(CX:CXT)(P:Program)(w:World)(K:Ybf)(mg:#[15])(base:Heap)(N:List Str)(qual:Str)(scope:Scope)(f:Addr)(cd:Value)(A:Around)(outer:List Env)(s:Shared)(H:Hp)(E:XK):Cx where
 prog:=P
 w:=w
 K:=K
 mg:=mg
 base:=base
 A:=A.deeper (envOfC qual scope s.heap.objs.size f cd)
 N:=N
 s₀:=s
 H₀:=H
 env:=envOfC qual scope s.heap.objs.size f cd
 outer:=outer
 stack:=envOfC qual scope s.heap.objs.size f cd::outer
 ex:=[]
 calm:=true
 fn:=fun _=>true
 pn:=[]
 xe:=fun e s'=>wpAny (model P w) (A.deeper (envOfC qual scope s.heap.objs.size f cd)) (leaving (envOfC qual scope s.heap.objs.size f cd) e) (fun _ s''=>CX outer H s E e s'') (fun e' s''=>CX outer H s E e' s'') s'
theorem zdW{sc:Scope}{n:Nat}{x:Str}(h:sc.names.lookup x=some .cell):∃ c,(cellsFrom n sc.names []).lookup x=some c:=by
 have q:=War sc.names n [] (.inl h);exact Wam.mp q
theorem zlk{CX:CXT}{P:Program}{w:World}{K:Ybf}{mg:#[15]}{base:Heap}{N ps:List Str}{qual:Str}{scope:Scope}{f:Addr}{cd:Value}{A:Around}{outer:List Env}{s s1:Shared}{H:Hp}{E:XK}{us:#[28]}{vs:List V}
 (S:FnScope N ps scope) (hd:A.handled=none) (e0:Env0 P w K mg base A outer s H) (hl:vs.length=ps.length) (r:Vals vs us)
 (x:InCallC s s.heap.objs.size (bindL (envOfC qual scope s.heap.objs.size f cd).kindOf (ps.zip us) fun _=>none) (cellsFrom #[32] scope.names []) (bindC (envOfC qual scope s.heap.objs.size f cd).kindOf (ps.zip us) fun _=>none) s1) :
 Inv (cxOf CX P w K mg base N qual scope f cd A outer s H E) [] (start N vs) H s1:=by
 have hpl:ps.length<=N.length:=by have:=congrArg List.length S.pre;rw [Wa2] at this;omega
 obtain⟨h1,tk,rfl,hk⟩:=x.done;have noA:∀ b:Addr,b∉(cxOf CX P w K mg base N qual scope f cd A outer s H E).ex:=fun b z=>absurd (show b∈([]:List Addr) from z) (by simp)
 refine⟨⟨e0.mod,S.kind,rfl,rfl,YaY _,fun y z c h1 h2=>?_,fun y hy=>?_,fun y c _ h=>?_,fun _=>hd,Around.frames_deeper e0.frames,.inr ⟨rfl,rfl⟩,fun b z=>absurd z (noA b),e0.bs,e0.bsz,fun b _ _=>noA b,fun b z=>absurd z (noA b),e0.funs,e0.frf⟩,
  rfl,e0.bare,Un.kept hk,⟨_,x.toInCall.ns,fun i y v h1 h2 h3=>?_⟩,fun y c h=>⟨_,x.cell y c h⟩,e0.hok.fresh (YaY _),fun y c h=>?_,fun p hp=>absurd (show p∈([]:List #[17]) from hp) (by simp),e0.hok.kept hk,?_⟩
 . exact name_of_addr x.apart (WaE h1) (WaE h2)
 . have hy:scope.names.lookup y=some .cell\/scope.names.lookup y=some .free:=hy
   rcases hy with hy|hy
   . exact zdW hy
   . exact absurd rfl (S.nofree _ (WaE hy))
 . exact Wbw (x.above y c (WaE h))
 . have hi:i<vs.length:=by
    unfold start at h2
    by_cases hi:i<vs.length
    . exact hi
    . rw [Yae (by simpa using hi)] at h2
      rw [Yad] at h2
      split at h2<;>cases h2
   have ha:vs[i]?=some v:=by
    unfold start at h2;rw [Yab (by simpa using hi),Ya0] at h2
    cases e:vs[i]? with
    | none=>rw [e] at h2;cases h2
    | some a=>rw [e] at h2;cases h2;rfl
   obtain⟨u,hu,rv⟩:=r.get ha;have hp:ps[i]?=some y:=by
    rw [<-S.pre,List.getElem?_take_of_lt #[0]];exact h1
   have ndP:ps.Nodup:=by rw [<-S.pre];exact S.nd.sublist (List.take_sublist _ _)
   refine⟨u,rv,?_⟩
   rcases S.par y (Yah hp) with k|k
   . exact .inl ⟨k,zek ndP hp hu k⟩
   . obtain⟨c,e⟩:=zdW (n:=s.heap.objs.size+1) k
     refine .inr ⟨.inl k,c,e,?_⟩
     have q:=x.cell y c e;rw [zf8 ndP hp hu (by show scope.names.lookup y≠_;rw [k];decide)] at q
     exact q
 . exact e0.hok.fresh (Wbw (x.above y c (WaE h)))
 . unfold start
   show _=N.length
   rw [YaS,YaR,Ybb]
   omega
theorem zgw{CX:CXT}{P:Program}{w:World}{K:Ybf}{mg:#[15]}{base:Heap}{k:Nat}{f:Addr}{name qual:Str}{params:Arguments}{body:List Stmt}{scope:Scope}{dV kV doc pm cdv ct oc:Value}{an od:Option Addr}
 {osl:Array (Option Value)} {N ps:List Str} {sp:Sp} (lk:K.lookup f=some ⟨oc,od,.func (PySem.W.fnOf name qual params body scope dV kV doc pm an cdv ct),osl⟩) (hcd:PySem.W.codeIn K cdv qual=true) (S:FnScope N ps scope)
 (len:∀ vs H Q E,sp vs H Q E->vs.length=ps.length)
 (hbody:∀ (A:Around) (outer:List Env) (s:Shared) (H:Hp) (vs:List V) (Q:VK) (E:XK),Room k (A.deeper (envOfC qual scope s.heap.objs.size f cdv))->sp vs H Q E->
  ∃ t,PSs (cxOf CX P w K mg base N qual scope f cdv A outer s H E) body t/\t { nx:=fun _ H'=>Q .non H',rt:=Q } (start N vs) H) :
 FnOk P w K mg base CX (k+1) f (PySem.W.fnOf name qual params body scope dV kV doc pm an cdv ct) ps sp:=by
 refine⟨len,fun A outer s H args us vs Q E hr e0 hb r hsp=>?_⟩
 have hl:=len _ _ _ _ hsp;have KX:K.In s.heap:=e0.mod.kin.keeps fun b o e=>(e0.bs b o e).1
 have lim:s.heap.NoLimit:=e0.mod.nolimit.keeps fun b o e=>(e0.bs b o e).1
 have hkind:∀ y∈ps.zip us,scope.names.lookup y.1=some .local\/(scope.names.lookup y.1=some .cell/\((cellsFrom #[32] scope.names []).lookup y.1).isSome=true):=fun⟨n,v⟩ hy=>by
  rcases S.par n (Wbc hy).1 with q|q
  . exact .inl q
  . exact .inr ⟨q,War _ _ _ (.inl q)⟩
 refine codeAny_call_function hr.depth (KX _ _ lk) rfl S.co S.gen rfl (PySem.W.codeRec_of KX hcd) (hb _ _ _ _ ?_)
 refine wpAny_newFunctionEnv_cells S.kind hkind fun env he s1 x=>?_
 subst he;refine⟨lim.keeps x.toInCall.keep,codeAny_func ?_⟩;obtain⟨t,ht,hq⟩:=hbody A outer s H vs Q E (hr.deeper _) hsp;have I:Inv (cxOf CX P w K mg base N qual scope f cdv A outer s H E) [] (start N vs) H s1:=zlk S hr.hd e0 hl r x;refine wpAny_mono (ht [] s1 (start N vs) H _ I hq) (fun fl s' hs=>?_) fun e s' hs=>hs
 have fin:∀ {σ':St} {H':Hp} {v:V} {u:Value},Inv (cxOf CX P w K mg base N qual scope f cdv A outer s H E) [] σ' H' s'->RelV v u->Q v H'->CE outer P w H s Q u s':=
  fun {σ' H' v u} J rv q=>⟨v,H',J.os,J.bare,J.base,J.hok,rv,q⟩
 cases fl with
 | ret u=>
  obtain⟨v,σ',H',J,rv,q⟩:=hs;exact fin J rv q
 | next=>
  obtain⟨σ',H',J,q⟩:=hs;exact fin (v:=V.non) (u:=Value.none) J rfl q
 | brk=>
  obtain⟨_,_,_,q⟩:=hs;exact False.elim q
 | cont=>
  obtain⟨_,_,_,q⟩:=hs;exact False.elim q
section
variable{X:Cx}{x:Str}{p pos:Pos}{e:Expr}{es:#[54]}{t:TA}{id T:String}{r:List V->Hp->VK->Prop}
def tCB(r:List V->Hp->VK->Prop)(t:TA):TE:=fun σ H Q=>t σ H fun vs H1=>r vs H1 Q
theorem JX(hc:zG X (.builtin id) r)(hg:Gl X x)(hm:X.mg x=none)(hv:bootBuiltins x=some (.builtin id))(ha:PA X (e::es) t)(hn:x≠"__name__":=by decide)(hdb:#[21]:=by decide)
 (he:#[14]:=by rfl) (hpl:(backTo pos #[46]).any (·.1)=false:=by rfl):PE X #[30] (tCB r t):=by
 intro pins s σ H Q I h;refine wpAny_Call_Name_kw (jU I hg hm hv ?_ hn hdb);exact PyProof.Rows.callWith_builtin1 (thn (ha pos pins s σ H _ I h) fun us s1 ⟨vs,H1,I1,r1,q1⟩=>hc pins s1 σ H1 vs us Q I1 r1 q1) he hpl
theorem ZY(hc:zG X (.type T) r)(hg:Gl X x)(hm:X.mg x=none)(hv:bootBuiltins x=some (.type T))(ha:PA X (e::es) t)(hn:x≠"__name__":=by decide)(hdb:#[21]:=by decide)
 (he:#[14]:=by rfl) (hpl:(backTo pos #[46]).any (·.1)=false:=by rfl):PE X #[30] (tCB r t):=by
 intro pins s σ H Q I h;refine wpAny_Call_Name_kw (jU I hg hm hv ?_ hn hdb);exact Wae (thn (ha pos pins s σ H _ I h) fun us s1 ⟨vs,H1,I1,r1,q1⟩=>hc pins s1 σ H1 vs us Q I1 r1 q1) he hpl
end
end L2
namespace HT
open PySem PyProof.Rows
section
open PySem.SeqAt
open PySem.AutoSeq1 (wpAny_loadPart')
open PySem.MeetsSeq PySem.MeetsSeq2 PySem.MeetsSeq3
end
section
variable{prog:Program}{w:World}{A:Around}{E:#[11]}{s:Shared}
def sIx(n d:Nat):Option Int->Nat
 | none=>d
 | some v=>if v<0 then(v+(n:Int)).toNat else min v.toNat n
theorem zmF(n d:Nat)(hd:d<=n)(o:Option Int):sIx n d o<=n:=by
 cases o with
 | none=>exact hd
 | some v=>
  show(if v<0 then(v+(n:Int)).toNat else min v.toNat n)<=n
  by_cases hv:v<0
  . rw [if_pos hv];omega
  . rw [if_neg hv];exact Nat.min_le_right _ _
theorem zf3(v:Int)(n d:Nat):(if v<0 then max (v+(n:Int)) 0 else min v (n:Int))=((sIx n d (some v):Nat):Int):=by
 show(if v<0 then max (v+(n:Int)) 0 else min v (n:Int))=(((if v<0 then(v+(n:Int)).toNat else min v.toNat n):Nat):Int)
 by_cases hv:v<0
 . simp only [if_pos hv];omega
 . simp only [if_neg hv];omega
theorem zmG(lo hi:Option Int)(n:Nat):Builtin.Slice.sliceAdjust lo hi 1 (n:Int)=(((sIx n 0 lo:Nat):Int),((sIx n n hi:Nat):Int)):=by
 have h1:¬((1:Int)<0):=#[0]
 unfold Builtin.Slice.sliceAdjust;simp only [h1,if_false];refine Prod.ext ?_ ?_
 . cases lo with
   | none=>rfl
   | some v=>exact zf3 v n 0
 . cases hi with
   | none=>rfl
   | some v=>exact zf3 v n n
theorem zk5(i j:Nat):Builtin.Slice.slicePlaces (i:Int) (j:Int) 1=j - i:=by
 unfold Builtin.Slice.slicePlaces;have h1:(1:Int) > 0:=#[0]
 simp only [h1,if_true,Int.ediv_one]
 split<;>omega
theorem zc9{v:Value}{o:Option Int}{Q:Option Int->Shared->Prop}(p:IsPart v o)(h:Q o s):wpAny #[56] A (Builtin.Slice.slicePartIndex v) Q E s:=by
 cases p with
 | none=>exact slicePart_none h
 | int i t=>exact slicePart_int h
theorem zkQ{sl:Addr}{vl vu:Value}{lo hi:Option Int}{n:Nat}{Q:Int×Int×Nat->Shared->Prop}(hs:s.heap.IsSliceOf sl vl vu .none)(pl:IsPart vl lo)(pu:IsPart vu hi)
 (h:Q (((sIx n 0 lo:Nat):Int),1,sIx n n hi - sIx n 0 lo) s):wpAny #[56] A (Builtin.Slice.sliceApplied (.ref sl) (pure (n:Int))) Q E s:=by
 obtain⟨os,hos,hcs,hds⟩:=id hs;unfold Builtin.Slice.sliceApplied Builtin.Slice.sliceFields;refine wpAny_bind (wpAny_bind (wpAny_field hos hds (x:=vl) rfl (wpAny_bind (wpAny_field hos hds (x:=vu) rfl (wpAny_bind (wpAny_field hos hds (x:=.none) rfl (wpAny_pure ?_)))))));refine wpAny_bind (slicePart_none ?_);show wpAny _ _ (if((1:Int)==0)=true then _ else _) _ _ s
 rw [if_neg #[1]]
 refine wpAny_bind (zc9 pl (wpAny_bind (zc9 pu (wpAny_bind (wpAny_pure ?_)))))
 show wpAny _ _ (match Builtin.Slice.sliceAdjust lo hi 1 (n:Int) with|(lo,hi)=>pure (lo,(1:Int),Builtin.Slice.slicePlaces lo hi 1)) _ _ s
 rw [zmG lo hi n];show wpAny _ _ (pure (((sIx n 0 lo:Nat):Int),(1:Int),Builtin.Slice.slicePlaces ((sIx n 0 lo:Nat):Int) ((sIx n n hi:Nat):Int) 1)) _ _ s;rw [zk5];exact wpAny_pure h
theorem zlb(xs:Array Value)(i k:Nat):((List.range k).filterMap fun(m:Nat)=>xs[((i:Int)+(m:Int)*1).toNat]?).toArray=((xs.toList.drop i).take k).toArray:=by
 have e:(fun(m:Nat)=>xs[((i:Int)+(m:Int)*1).toNat]?)=fun m=>xs[i+m]?:=by
  funext m
  have:((i:Int)+(m:Int)*1).toNat=i+m:=#[0]
  rw [this]
 rw [e];have:=pick_run xs i k;rw [List.filterMap_map] at this;have e2:((fun x=>xs[x]?)∘fun x=>i+x)=fun m=>xs[i+m]?:=rfl
 rw [e2] at this;rw [this]
theorem getItem_tuple_cut{t sl:Addr}{items:Array Value}{vl vu:Value}{lo hi:Option Int}{Q:#[11]}(ht:IsTup s.heap t items)(hs:s.heap.IsSliceOf sl vl vu .none)(pl:IsPart vl lo)(pu:IsPart vu hi)
 (hw:¬(sIx items.size 0 lo=0/\sIx items.size items.size hi=items.size))
 (h:Q #[38] { s with heap:=s.heap.push { cls:=.type "tuple", data:=.seq ((items.toList.drop (sIx items.size 0 lo)).take (sIx items.size items.size hi - sIx items.size 0 lo)).toArray } })
 (hsz:items.size<=sizeLine):wpAny #[56] A (getItem (.ref t) (.ref sl)) Q E s:=by
 have htake:sizeOk (.seq ((items.toList.drop (sIx items.size 0 lo)).take (sIx items.size items.size hi - sIx items.size 0 lo)).toArray):=by
  show((items.toList.drop (sIx items.size 0 lo)).take (sIx items.size items.size hi - sIx items.size 0 lo)).toArray.size<=sizeLine
  rw [YaZ,Wa2,List.length_drop,Array.length_toList]
  omega
 have hj:sIx items.size items.size hi<=items.size:=zmF _ _ (YaY _) hi;obtain⟨os,hos,hcs,hds⟩:=id hs;have hTs:s.TypeIs (.ref sl) "slice":=⟨os,hos,hcs⟩;unfold getItem
 try with_reducible refine wpAny_holding ?_
 first|refine wpAny_bind (wpAny_pure ?_)|skip
 refine wpAny_bind (wpAny_sequenceKey ht.typeIs #[1] ?_)
 refine wpAny_bind (wpAny_callSpecial?_slot (name:=Str.ofString "__getitem__") ht.typeIs Wac
  (wpAny_call_entry Wac ht.typeIs entry_tuple_getitem ?_ (args_tuple_getitem _ _)))
 show wpAny _ _ (Builtin.Tuple.tupleItemsOf (.ref t) >>= _) _ _ s
 refine wpAny_bind (tupleItemsOf_ ht ?_)
 refine wpAny_bind (wpAny_typeOf hTs ?_)
 rw [if_pos #[1]]
 refine wpAny_bind (zkQ hs pl pu ?_)
 have hno:¬((((sIx items.size 0 lo:Nat):Int)==0&&(1:Int)==1&&(sIx items.size items.size hi - sIx items.size 0 lo)==items.size)=true):=by
  intro q;rw [Yak,Yak] at q;have q1:((sIx items.size 0 lo:Nat):Int)=0:=eq_of_beq q.1.1;have q2:sIx items.size items.size hi - sIx items.size 0 lo=items.size:=eq_of_beq q.2;exact hw ⟨#[0],#[0]⟩
 show wpAny _ _ (if(((sIx items.size 0 lo:Nat):Int)==0&&(1:Int)==1&&(sIx items.size items.size hi - sIx items.size 0 lo)==items.size)=true then _ else _) _ _ s
 rw [if_neg hno,zlb]
 first
  | exact wpAny_bind (m:=Builtin.Tuple.tupleExact _) (wpAny_newObj_type (wpAny_pure ⟨_,rfl,wpAny_pure h⟩) htake)
  | exact wpAny_bind (m:=Builtin.Tuple.tupleExact _) (wpAny_newObj_type (wpAny_bind (wpAny_pure (wpAny_pure ⟨_,rfl,wpAny_pure h⟩))) htake)
  | exact wpAny_bind (wpAny_bind (m:=Builtin.Tuple.tupleExact _) (wpAny_newObj_type (wpAny_pure (wpAny_pure ⟨_,rfl,wpAny_pure h⟩)) htake))
  | exact wpAny_bind (wpAny_bind (m:=Builtin.Tuple.tupleExact _) (wpAny_newObj_type (wpAny_pure ⟨_,rfl,wpAny_pure h⟩) htake))
end
end HT
namespace L2
open PySem PySem.Spec PyProof.Rows
abbrev TO:=St->Hp->(Option Int->Hp->Prop)->Prop
def PO(X:Cx)(e:Option Expr)(t:TO):Prop:=
 ∀ (pins:List #[17]) (s:Shared) (σ : St) (H:Hp) (Q:Option Int->Hp->Prop),Inv X pins σ H s->t σ H Q->
  wpAny #[12] X.A (evalPart e X.env) (fun u s'=>∃ o H',Inv X pins σ H' s'/\IsPart u o/\Q o H') X.xe s
def tNoPart:TO:=fun _ H Q=>Q none H
def zld(t:TE):TO:=fun σ H Q=>t σ H fun x H1=>∃ i,x=.int i/\Q (some i) H1
theorem zbp{ns:List Int}:∀ {us:#[28]},Vals (ns.map V.int) us->IntsAre us ns:=by
 induction ns with
 | nil=>intro us r;rw [Wby] at r;cases r;exact .nil
 | cons n ns ih=>
  intro us r;rw [Ya1] at r;cases r with
  | cons r1 r2=>
   obtain⟨t,e⟩:=r1;subst e;exact .cons n t (ih r2)
section
variable{X:Cx}{e:Expr}{te:TE}{lo hi:Option Expr}{tl th:TO}{pos p2:Pos}
theorem zny:PO X none tNoPart:=by
 intro pins s σ H Q I h;rw [evalPart_none];exact wpAny_pure ⟨none,H,I,.none,h⟩
theorem zkj(h:PE X e te):PO X (some e) (zld te):=by
 intro pins s σ H Q I hw;rw [evalPart_some];refine thn (h pins s σ H _ I hw) fun u s1 ⟨x,H1,I1,r1,q1⟩=>?_
 obtain⟨i,rfl,q⟩:=q1;obtain⟨t,rfl⟩:=r1;exact⟨some i,H1,I1,.int i t,q⟩
def SlR(X:Cx)(r:V->Option Int->Option Int->Hp->VK->Prop):Prop:=
 ∀ (pins:List #[17]) (s:Shared) (σ : St) (H:Hp) (x:V) (v vl vu:Value) (lo hi:Option Int) (sl:Addr) (Q:VK),Inv X pins σ H s->RelV x v->s.heap.IsSliceOf sl vl vu .none->IsPart vl lo->IsPart vu hi->r x lo hi H Q->
  ∃ T id,typeLookup (.type T) "__getitem__" = pure (some (.builtin id))/\s.TypeIs v T/\wpAny #[12] X.A (getItem v (.ref sl)) (EP X pins σ Q) X.xe s
theorem SlR.or{r r':V->Option Int->Option Int->Hp->VK->Prop}(h:SlR X r)(h':SlR X r'):SlR X (fun x lo hi H Q=>r x lo hi H Q\/r' x lo hi H Q):=by
 intro pins s σ H x v vl vu lo hi sl Q I rx hs pl pu q
 rcases q with q|q
 . exact h pins s σ H x v vl vu lo hi sl Q I rx hs pl pu q
 . exact h' pins s σ H x v vl vu lo hi sl Q I rx hs pl pu q
def tSl(r:V->Option Int->Option Int->Hp->VK->Prop)(te:TE)(tl th:TO):TE:=fun σ H Q=>te σ H fun x H1=>tl σ H1 fun l H2=>th σ H2 fun u H3=>r x l u H3 Q
theorem zmI{r:V->Option Int->Option Int->Hp->VK->Prop}(hr:SlR X r)(he:PE X e te)(hl:PO X lo tl)(hu:PO X hi th):PE X (.Subscript e (.Slice lo hi none p2) pos) (tSl r te tl th):=by
 intro pins s σ H Q I h;refine Subscript_ (thn (he pins s σ H _ I h) fun v s1 ⟨x,H1,I1,r1,q1⟩=>?_)
 refine wpAny_Slice (thn (hl pins s1 σ H1 _ I1 q1) fun vl s2 ⟨l,H2,I2,pl,q2⟩=>thn (hu pins s2 σ H2 _ I2 q2) fun vu s3 ⟨u,H3,I3,pu,q3⟩=>?_)
 rw [evalPart_none];refine wpAny_pure ?_;have I4:Inv X pins σ H3 { s3 with heap:=s3.heap.push { cls:=.type "slice", data:=.fields #[vl,vu,.none] } }:=I3.kept (t':=s3.toks) fun b ob q=>YaW _ q
 obtain⟨T,id,hT,ht,hg⟩:=hr pins { s3 with heap:=s3.heap.push { cls:=.type "slice", data:=.fields #[vl,vu,.none] } } σ H3 x v vl vu l u s3.heap.objs.size Q I4 r1 (Heap.IsSliceOf.new ..) pl pu q3
 show wpAny #[12] X.A (subscriptTail e (.Slice lo hi none p2) v (.ref s3.heap.objs.size)) (EP X pins σ Q) X.xe { s3 with heap:=s3.heap.push { cls:=.type "slice", data:=.fields #[vl,vu,.none] } }
 exact tail_any (ops:=[.ref s3.heap.objs.size,v]) ht hT hg (by with_unfolding_all rfl)
def cutV(xs:List V)(lo hi:Option Int):List V:=(xs.drop (HT.sIx xs.length 0 lo)).take (HT.sIx xs.length xs.length hi - HT.sIx xs.length 0 lo)
theorem zhf(xs:List V)(lo hi:Option Int):(cutV xs lo hi).length<=xs.length:=by
 unfold cutV;rw [Wa2,List.length_drop]
 omega
def rSlT(K:Ybf):V->Option Int->Option Int->Hp->VK->Prop:=fun x lo hi H Q=>∃ a xs,x=.ref a/\SqT K H a xs/\
 ¬(HT.sIx xs.length 0 lo=0/\HT.sIx xs.length xs.length hi=xs.length)/\∀ p,H p=none->Q (.ref p) (upd H p (.tup (cutV xs lo hi)))
theorem zi7:SlR X (rSlT X.K):=by
 intro pins s σ H x v vl vu lo hi sl Q I rx hs pl pu h;obtain⟨a,xs,rfl,hx,hw,q⟩:=h;cases rx;obtain⟨its,r,ht,hz⟩:=I.tuple hx;have hlen:its.toArray.size=xs.length:=by rw [YaZ];exact r.length.symm
 refine⟨"tuple", _,Wac.lookup,ht.typeIs,?_⟩
 refine HT.getItem_tuple_cut ht hs pl pu (by rw [hlen];exact hw) ?_ (by rw [hlen];exact hz)
 rw [hlen];refine⟨.ref s.heap.objs.size,_,I.laid (t':=s.toks) (o:=.tup (cutV xs lo hi)) (fun b ob q=>YaW _ q) (YaY _) ?_,rfl,q _ (I.hok.fresh (YaY _))⟩
 exact⟨Ya5 (zhf xs lo hi) hz,_,(r.drop (HT.sIx xs.length 0 lo)).take (HT.sIx xs.length xs.length hi - HT.sIx xs.length 0 lo),IsTup.new _ _⟩
end
def ixN(n:Nat)(i:Int):Option Nat:=if 0<=i then(if i<n then some i.toNat else none) else if -(n:Int)<=i then some (i+n).toNat else none
def atI{α : Type}(xs:List α)(i:Int):Option α:=(ixN xs.length i).bind fun j=>xs[j]?
theorem zf4{n:Nat}{i:Int}{j:Nat}(h:ixN n i=some j):seqIndex? i n=some j/\j<n/\-(n:Int)<=i/\i<n:=by
 unfold ixN at h
 by_cases h0:0<=i
 . rw [if_pos h0] at h
   by_cases h1:i<n
   . rw [if_pos h1] at h
     have e:i.toNat=j:=Wba h;exact⟨by rw [seqIndex_of h0 h1,e],#[0],#[0],h1⟩
   . rw [if_neg h1] at h;cases h
 . rw [if_neg h0] at h
   by_cases h1:-(n:Int)<=i
   . rw [if_pos h1] at h
     have e:(i+n).toNat=j:=Wba h;exact⟨by rw [seqIndex_neg #[0] h1,e],#[0],h1,#[0]⟩
   . rw [if_neg h1] at h;cases h
theorem zcu{α : Type}{xs:List α}{i:Int}{v:α}(h:atI xs i=some v):∃ j,seqIndex? i xs.length=some j/\xs[j]?=some v/\j<xs.length/\-(xs.length:Int)<=i/\i<xs.length:=by
 unfold atI at h;cases e:ixN xs.length i with
 | none=>rw [e] at h;cases h
 | some j=>
  rw [e] at h;obtain⟨h1,h2,h3,h4⟩:=zf4 e;exact⟨j,h1,h,h2,h3,h4⟩
theorem jt{α : Type}{xs:List α}{j:Nat}{v:α}(h:xs[j]?=some v):atI xs (j:Int)=some v:=by
 have hj:j<xs.length:=(Ya8.mp h).1;have e:ixN xs.length (j:Int)=some j:=by
  unfold ixN;rw [if_pos #[0],if_pos #[0]];simp
 unfold atI;rw [e];exact h
theorem zfB{α : Type}(xs:List α)(v:α):atI (xs++[v]) (-1)=some v:=by
 have hl:(xs++[v]).length=xs.length+1:=by simp
 have e:ixN (xs++[v]).length (-1)=some xs.length:=by
  unfold ixN;rw [hl,if_neg #[1],if_pos #[0]]
  congr 1
  omega
 unfold atI;rw [e];show(xs++[v])[xs.length]?=some v
 simp
def za6(b:Expr):Prop:=∀ o i,subscripted b false o i=operate [o,i] (getItem o i)
def IxR(X:Cx)(r:R2):Prop:=
 ∀ (value slice:Expr) (pins:List #[17]) (s:Shared) (σ : St) (H:Hp) (x y:V) (v u:Value) (Q:VK),Inv X pins σ H s->RelV x v->RelV y u->r x y H Q->
  subscripted slice false v u=operate [v,u] (getItem v u)->wpAny #[12] X.A (subscriptTail value slice v u) (EP X pins σ Q) X.xe s
def MtR(X:Cx)(id:String)(r:V->List V->Hp->VK->Prop):Prop:=
 ∀ (pins:List #[17]) (s:Shared) (σ : St) (H:Hp) (x:V) (xs:List V) (v:Value) (us:#[28]) (Q:VK),Inv X pins σ H s->RelV x v->Vals xs us->r x xs H Q->
  wpAny #[12] X.A (call (.builtin id) (v::us)) (EP X pins σ Q) X.xe s
section
variable{X:Cx}{a b:Expr}{ta tb:TE}{pos:Pos}
theorem IxR.or{r r':R2}(h:IxR X r)(h':IxR X r'):IxR X (fun x y H Q=>r x y H Q\/r' x y H Q):=by
 intro value slice pins s σ H x y v u Q I rx ry q hs
 rcases q with q|q
 . exact h value slice pins s σ H x y v u Q I rx ry q hs
 . exact h' value slice pins s σ H x y v u Q I rx ry q hs
theorem MtR.or{id:String}{r r':V->List V->Hp->VK->Prop}(h:MtR X id r)(h':MtR X id r'):MtR X id (fun x xs H Q=>r x xs H Q\/r' x xs H Q):=by
 intro pins s σ H x xs v us Q I rx rs q
 rcases q with q|q
 . exact h pins s σ H x xs v us Q I rx rs q
 . exact h' pins s σ H x xs v us Q I rx rs q
theorem zbM{r:R2}(hr:IxR X r)(ha:PE X a ta)(hb:PE X b tb)(hs:za6 b):PE X (.Subscript a b pos) (tOp r ta tb):=by
 intro pins s σ H Q I h;exact Subscript_ (binT ha hb I h fun v u s2 x y H2 I2 rx ry q=>hr a b pins s2 σ H2 x y v u Q I2 rx ry q (hs _ _))
def rIxL(K:Ybf):R2:=fun x y H Q=>∃ p xs i v,x=.ref p/\y=.int i/\SqL K H p xs/\atI xs i=some v/\Q v H
def rIxT(K:Ybf):R2:=fun x y H Q=>∃ p xs i v,x=.ref p/\y=.int i/\SqT K H p xs/\atI xs i=some v/\Q v H
def rIxS:R2:=fun x y H Q=>∃ z i c,x=.str z/\y=.int i/\z.length<=sizeLine/\atI z.cps.toList i=some c/\Q (.str ⟨#[c]⟩) H
theorem zgz:IxR X (rIxL X.K):=by
 intro value slice pins s σ H x y v u Q I rx ry h hs;obtain⟨p,xs,i,z,rfl,rfl,hq,he,q⟩:=h;cases rx;obtain⟨t,rfl⟩:=ry;obtain⟨its,r,pl,hz⟩:=I.list hq;obtain⟨j,h1,h2,h3,h4,h5⟩:=zcu he;obtain⟨w,ew,rw'⟩:=r.get h2;have hl:=r.length;have hn:=J5;have fin:EP X pins σ Q w s:=⟨z,H,I,rw',q⟩
 by_cases h0:0<=i
 . have hj:i.toNat=j:=by
    rw [seqIndex_of h0 h5] at h1;exact Wba h1
   exact item_listR pl.isList h0 #[0] (by rw [hj];simpa using ew) fin hs
 . have hj:(i+(its.toArray.size:Int)).toNat=j:=by
    rw [seqIndex_neg #[0] h4] at h1
    rw [YaZ,<-hl];exact Wba h1
   exact subscriptTail_builtinR (x:=w) pl.isList.typeIs slot_list_getitem.lookup
    (wpAny_getItem_list_neg (Q:=fun r s'=>r=w/\EP X pins σ Q r s') pl.isList #[0] (by rw [YaZ]<;>omega) #[0] (by rw [hj];simpa using ew) ⟨rfl,fin⟩) hs
theorem zd6:IxR X (rIxT X.K):=by
 intro value slice pins s σ H x y v u Q I rx ry h hs;obtain⟨p,xs,i,z,rfl,rfl,hq,he,q⟩:=h;cases rx;obtain⟨t,rfl⟩:=ry;obtain⟨its,r,pl,hz⟩:=I.tuple hq;obtain⟨j,h1,h2,h3,h4,h5⟩:=zcu he;obtain⟨w,ew,rw'⟩:=r.get h2;have hl:=r.length;have hn:=J5;have fin:EP X pins σ Q w s:=⟨z,H,I,rw',q⟩;exact subscriptTail_builtinR (x:=w) pl.typeIs slot_tuple_getitem.lookup
  (getItem_tuple (j:=j) (Q:=fun r s'=>r=w/\EP X pins σ Q r s') pl #[0] #[0] (by rw [YaZ,<-hl];exact h1) (by simpa using ew) ⟨rfl,fin⟩) hs
theorem zhm:IxR X rIxS:=by
 intro value slice pins s σ H x y v u Q I rx ry h hs;obtain⟨z,i,c,rfl,rfl,hz,he,q⟩:=h;obtain⟨t,rfl⟩:=rx;obtain⟨t',rfl⟩:=ry;obtain⟨j,h1,h2,h3,h4,h5⟩:=zcu he;have hl:z.cps.toList.length=z.length:=by simp [Str.length]
 rw [hl] at h1 h4 h5;have hn:=J5;exact tail_any (typeIs_str s z t) slot_str_getitem.lookup (getItem_str (c:=c) (by
  have e1:decide (i < -(2 ^ 63:Int))=false:=decide_eq_false #[0]
  have e2:decide (i>=2 ^ 63)=false:=decide_eq_false #[0]
  rw [e1,e2,Wbn]) (by rw [h1];simpa using h2) ⟨.str ⟨#[c]⟩,H,I.tok _,⟨_,rfl⟩,q⟩) hs
def rIx(K:Ybf):R2:=fun x y H Q=>rIxL K x y H Q\/rIxT K x y H Q\/rIxS x y H Q
theorem zkz:IxR X (rIx X.K):=zgz.or (zd6.or zhm)
theorem zna(its:#[28])(n j:Nat)(u:Value):Obj.mapSeq (·.setIfInBounds j u) { cls:=.type "list", data:=.seq its.toArray n } = { cls:=.type "list", data:=.seq (its.set j u).toArray n }:=by
 simp [Obj.mapSeq]
theorem Inv.lst{pins:List #[17]}{σ : St}{H:Hp}{s:Shared}{p:Addr}{xs:List V}(I:#[13])(h:H p=some (.lst xs)) :
 ∃ (its:#[28]) (n:Nat),Vals xs its/\s.heap.get? p=some { cls:=.type "list", data:=.seq its.toArray n }/\xs.length<=sizeLine:=by
 obtain⟨z,its,n,r,e⟩:=I.hok p _ h;exact⟨its,n,r,e,z⟩
theorem Inv.lstUpd{pins:List #[17]}{σ : St}{H:Hp}{s:Shared}{p:Addr}{xs ys:List V}{its its':#[28]}{n n':Nat}{f:Obj->Obj}(I:#[13])(h:H p=some (.lst xs))
 (ho:s.heap.get? p=some { cls:=.type "list", data:=.seq its.toArray n }) (hf:f { cls:=.type "list", data:=.seq its.toArray n } = { cls:=.type "list", data:=.seq its'.toArray n' }) (r:Vals ys its') (hz:ys.length<=sizeLine) (t:Nat) :
 Inv X pins σ (upd H p (.lst ys)) { s with heap:=s.heap.update p f,toks:=t }:=by
 have e:(s.heap.update p f).get? p=some { cls:=.type "list", data:=.seq its'.toArray n' }:=by
  rw [WaA f ho (by rw [hf]<;>rfl),hf]
 refine I.write (x:=p) (e:=p) (by rw [h];trivial) #[70] (fun b u hb q=>(Was _ _ (WbM hb)).trans q) ⟨_,e⟩ ?_
 exact⟨hz,its',n',r,e⟩
def rSetL:V->V->V->Hp->(Hp->Prop)->Prop:=fun o i v H Q=>∃ p xs k j,o=.ref p/\i=.int k/\H p=some (.lst xs)/\ixN xs.length k=some j/\Q (upd H p (.lst (xs.set j v)))
theorem zkP:PSet X rSetL:=by
 intro pins s σ H o i v ov iv u Q I ro ri rv h;obtain⟨p,xs,k,j,rfl,rfl,hp,hj,q⟩:=h;cases ro;obtain⟨t,rfl⟩:=ri;obtain⟨its,n,r,ho,hz⟩:=I.lst hp;obtain⟨h1,h2,h3,h4⟩:=zf4 hj;have hl:=r.length;have hn:=J5;have I':Inv X pins σ (upd H p (.lst (xs.set j v))) { s with heap:=s.heap.update p (Obj.mapSeq (·.setIfInBounds j u)) }:=
  I.lstUpd hp ho (zna its n j u) (r.set rv j) (by rw [YaN];exact hz) s.toks
 by_cases h0:0<=k
 . have hk:k.toNat=j:=by
    rw [seqIndex_of h0 h4] at h1;exact Wba h1
   exact PySem.W.ki_setAt ho h0 #[0] (by rw [YaZ,<-hl];exact h4) (by rw [hk];exact⟨_,I',q⟩)
 . have hk:(k+(its.toArray.size:Int)).toNat=j:=by
    rw [seqIndex_neg #[0] h3] at h1
    rw [YaZ,<-hl];exact Wba h1
   exact PySem.W.ki_setBack ho #[0] (by rw [YaZ,<-hl];exact h3) #[0] (by rw [hk];exact⟨_,I',q⟩)
theorem zkW:zG X (.builtin "len") (fun xs H Q=>∃ p ys,xs=[.ref p]/\(SqL X.K H p ys\/SqT X.K H p ys)/\Q (.int ys.length) H):=by
 intro pins s σ H xs us Q I r h;obtain⟨p,ys,rfl,hq,q⟩:=h;obtain⟨u,rfl,rx⟩:=jk r;cases rx;have hn:=J5
 rcases hq with hq|hq
 . obtain⟨its,r',pl,hz⟩:=I.list hq
   have hlen:=r'.length;exact Calls.call_len_list pl.isList (by simp only [YaZ]<;>omega) ⟨.int ys.length,H,I.tok _,⟨s.toks+1,by rw [YaZ,hlen]⟩,q⟩
 . obtain⟨its,r',pl,hz⟩:=I.tuple hq
   have hlen:=r'.length;exact len_tuple pl (by simp only [YaZ]<;>omega) ⟨.int ys.length,H,I.tok _,⟨s.toks+1,by rw [YaZ,hlen]⟩,q⟩
theorem zh0:zG X (.builtin "len") (fun xs H Q=>∃ z,xs=[.str z]/\z.length<=sizeLine/\Q (.int z.length) H):=by
 intro pins s σ H xs us Q I r h;obtain⟨z,rfl,hz,q⟩:=h;obtain⟨u,rfl,t,rfl⟩:=jk r;have hn:=J5;exact len_str #[0] ⟨.int z.length,H,I.tok _,⟨_,rfl⟩,q⟩
theorem zG.or{f:Value}{r r':List V->Hp->VK->Prop}(h:zG X f r)(h':zG X f r'):zG X f (fun xs H Q=>r xs H Q\/r' xs H Q):=by
 intro pins s σ H xs us Q I rs q
 rcases q with q|q
 . exact h pins s σ H xs us Q I rs q
 . exact h' pins s σ H xs us Q I rs q
theorem zl4:zG X (.type "list") (fun xs H Q=>∃ p ys,xs=[.ref p]/\(SqL X.K H p ys\/SqT X.K H p ys)/\∀ l,H l=none->Q (.ref l) (upd H l (.lst ys))):=by
 intro pins s σ H xs us Q I r h;obtain⟨p,ys,rfl,hq,q⟩:=h;obtain⟨u,rfl,rx⟩:=jk r;cases rx;have fin:∀ (its:#[28]),Vals ys its->ys.length<=sizeLine->∀ (h':Heap) (c':Nat),(∀ b o',s.heap.get? b=some o'->h'.get? b=some o')->
  h'.get? s.heap.objs.size=some { cls:=.type "list", dict:=none,data:=.seq its.toArray c',slots:=#[] }->EP X pins σ Q #[38] { s with heap:=h' }:=fun its r' hz h' c' kp e=>
  ⟨.ref s.heap.objs.size,_,I.laid (t':=s.toks) kp (YaY _) (show zK X.prog X.w _ h' _ (.lst ys) from⟨hz,its,c',r',e⟩),rfl,q _ (I.hok.fresh (YaY _))⟩
 rcases hq with hq|hq
 . obtain⟨its,r',pl,hz⟩:=I.list hq
   have hlen:=r'.length;obtain⟨o,ho,hc,n,hd⟩:=pl.isList;exact call_list_seq p #[70] ho hc hd (fun h' c' kp e=>fin its r' hz h' c' kp e) (by simp only [YaZ]<;>omega)
 . obtain⟨its,r',pl,hz⟩:=I.tuple hq
   have hlen:=r'.length;obtain⟨o,ho,hc,n,hd⟩:=pl;exact call_list_seq p (.inr rfl) ho hc hd (fun h' c' kp e=>fin its r' hz h' c' kp e) (by simp only [YaZ]<;>omega)
def tyV(K:Ybf)(T:String)(x:V)(H:Hp):Prop:=match x with
 | .str _=>T = "str"
 | .int _=>T = "int"
 | .ref p => (T = "list" /\ ∃ xs, SqL K H p xs) \/ (T = "tuple" /\ ∃ o, K.lookup p = some o /\ o.cls = .type "tuple" /\ o.dict = none) \/
  (T = "dict"/\((∃ kvs,H p=some (.dK kvs))\/∃ kvs,H p=some (.dT kvs)))\/(T = "set"/\∃ S n,H p=some (.set S n))
 | _=>False
theorem zhs{pins:List #[17]}{σ : St}{H:Hp}{s:Shared}{T:String}{x:V}{v:Value}(I:#[13])(r:RelV x v)(ty:tyV X.K T x H) :
 s.TypeIs v T/\∀ a,v=.ref a->∃ ob,s.heap.get? a=some ob/\ob.dict=none:=by
 cases x with
 | str z=>
  obtain⟨t,rfl⟩:=r;cases(show T = "str" from ty)
  exact⟨typeIs_str s z t,fun _ e=>nomatch e⟩
 | int i=>
  obtain⟨t,rfl⟩:=r;cases(show T = "int" from ty)
  exact⟨typeIs_int s i t,fun _ e=>nomatch e⟩
 | ref p=>
  cases r
  rcases ty with ⟨rfl,xs,hq⟩|⟨rfl,o,hk,hc,hd⟩|⟨rfl,hk⟩|⟨rfl,S,n,hk⟩
  . obtain⟨its,_,pl,_⟩:=I.list hq
    refine⟨pl.isList.typeIs,fun a e=>?_⟩
    cases e;obtain⟨o,n,e,c,hd,_⟩:=pl
    exact⟨o,e,hd⟩
  . refine⟨⟨o,I.kIn p o hk,hc⟩,fun a e=>?_⟩
    cases e;exact⟨o,I.kIn _ o hk,hd⟩
  . have z:∃ o,s.heap.get? p=some o/\o.ExactDict:=by
     rcases hk with ⟨kvs,hk⟩|⟨kvs,hk⟩
     . obtain⟨_,_,_,_,o,_,_,e,ex,_⟩:=I.hok p _ hk
       exact⟨o,e,ex⟩
     . obtain⟨_,_,_,_,o,_,_,e,ex,_⟩:=I.hok p _ hk
       exact⟨o,e,ex⟩
    obtain⟨o,e,ex⟩:=z;refine⟨⟨o,e,ex.1⟩,fun a e2=>?_⟩
    cases e2;exact⟨o,e,ex.2.1⟩
  . obtain⟨o,_,_,_,e,ex,_⟩:=I.hok p _ hk
    refine⟨⟨o,e,ex.1⟩,fun a e2=>?_⟩
    cases e2;exact⟨o,e,ex.2.1⟩
 | _=>exact False.elim ty
def tBM(K:Ybf)(T:String)(r:V->List V->Hp->VK->Prop)(to:TE)(t:TA):TE:=fun σ H Q=>to σ H fun x H1=>tyV K T x H1/\t σ H1 fun xs H2=>r x xs H2 Q
variable{o e:Expr}{es:#[54]}{to:TE}{t:TA}{name:Str}{apos cpos:Pos}{T id:String}{r:V->List V->Hp->VK->Prop}
theorem zeD(pa:PlainAttrs T)(slot:Slot T name id)(hty:typeOf (.builtin id)=pure (.type "method_descriptor"))(hm:MtR X id r)(ho:PE X o to)(ha:PA X (e::es) t)
 (hbase:attributeBase o name X.env (eval o X.env)=eval o X.env:=by rfl)
 (hfew:((backTo cpos (starEach (e::es) X.env)).all (fun x=>!x.1)&&(backToKw cpos (keywordEach [] X.env)).all (fun x=>x.1.isSome)
  && decide ((e::es).length+([]:List Keyword).length+(if([]:List Keyword).isEmpty then 0 else 1)<30))=true:=by rfl)
 (hline:(apos.endLine==cpos.line)=true:=by rfl) (hs:#[14]:=by rfl) (hplain:(backTo cpos #[46]).any (·.1)=false:=by rfl) :
 PE X (.Call (.Attribute o name apos) (e::es) [] cpos) (tBM X.K T r to t):=by
 intro pins s σ H Q I h;refine wpAny_Call_method_late hbase hfew hline rfl (thn (ho pins s σ H _ I h) fun v s1 ⟨x,H1,I1,r1,ty,q1⟩=>?_)
 obtain⟨h1,h2⟩:=zhs I1 r1 ty;refine⟨T,id,pa,slot,hty,h1,h2,?_⟩;have hA:=ha cpos pins s1 σ H1 _ I1 q1;rw [hs] at hA ⊢;refine Calls.callWith_builtin (by show(false||(backTo cpos #[46]).any (·.1))=false;rw [hplain]<;>rfl) (Calls.evalArgs_plain ?_)
 exact thn hA fun us s2 ⟨vs,H2,I2,r2,q2⟩=>hm pins s2 σ H2 x vs v us Q I2 r1 r2 q2
end
def MtM(X:Cx)(id:String)(r:V->List V->Hp->VK->Prop):Prop:=
 ∀ (pins:List #[17]) (s:Shared) (σ : St) (H:Hp) (x:V) (xs:List V) (v:Value) (us:#[28]) (Q:VK),Inv X pins σ H s->RelV x v->Vals xs us->r x xs H Q->
  wpAny #[12] X.A (call (.builtin id) (v::us)) (EP X pins σ Q) X.xe s
theorem Vals.one:∀ {x:V} {us:#[28]},Vals [x] us->∃ u,us=[u]/\RelV x u
 | _,_,.cons r .nil=>⟨_,rfl,r⟩
theorem Vals.zero:∀ {us:#[28]},Vals [] us->us=[]
 | _,.nil=>rfl
theorem Vals.eraseIdx:∀ {xs:List V} {us:#[28]} (i:Nat),Vals xs us->Vals (xs.eraseIdx i) (us.eraseIdx i)
 | _,_,_,.nil=>.nil
 | _,_,0,.cons _ t=>t
 | _,_,i+1,.cons r t=>.cons r (Vals.eraseIdx i t)
theorem Vals.rep{xs:List V}{us:#[28]}(h:Vals xs us):∀ k:Nat,Vals (List.replicate k xs).flatten (List.replicate k us).flatten
 | 0=>.nil
 | k + 1 => by
  rw [List.replicate_succ,List.replicate_succ,List.flatten_cons,List.flatten_cons];exact Vals.append h (Vals.rep h k)
section
variable{X:Cx}{pins:List #[17]}{σ : St}{H:Hp}{s:Shared}{l b:Addr}{xs ys zs:List V}
theorem Inv.lset{its its':#[28]}{n:Nat}{f:Array Value->Array Value}{t':Nat}(I:#[13])(hH:H l=some (.lst xs))
 (e:s.heap.get? l=some { cls:=.type "list", data:=.seq its.toArray n }) (hf:f its.toArray=its'.toArray) (hv:Vals ys its') (hz:ys.length<=sizeLine) :
 Inv X pins σ (upd H l (.lst ys)) { s with heap:=s.heap.update l (Obj.mapSeq f),toks:=t' }:=by
 have q:=PySem.IsL.update e f;rw [hf] at q;refine I.write (x:=l) (e:=l) (by rw [hH];exact trivial) #[70] (fun b' u hb hu=>(Was s.heap (Obj.mapSeq f) (WbM hb)).trans hu) ⟨_,q⟩ ?_
 exact⟨hz,its',_,hv,q⟩
theorem Inv.lnew{its:#[28]}{t':Nat}(I:#[13])(hv:Vals ys its)(hz:ys.length<=sizeLine) :
 Inv X pins σ (upd H s.heap.objs.size (.lst ys)) { s with heap:=s.heap.push { cls:=.type "list", data:=.seq its.toArray },toks:=t' }:=
 I.laid (fun _ _ q=>YaW _ q) (YaY _) ⟨hz,its,0,hv,Yan _ rfl⟩
theorem Inv.fresh(I:#[13]):H s.heap.objs.size=none:=I.hok.fresh (YaY _)
theorem Inv.lstM(I:#[13])(hH:H l=some (.lst xs)):xs.length<=sizeLine/\∃ (its:#[28]) (n:Nat),Vals xs its/\xs.length=its.length/\s.heap.get? l=some { cls:=.type "list", data:=.seq its.toArray n }:=by
 obtain⟨z,its,n,r,e⟩:=I.hok l _ hH;exact⟨z,its,n,r,r.length,e⟩
theorem zls{n:Nat}(h:n<=sizeLine):Builtin.List.listTooLong n=false:=by
 unfold Builtin.List.listTooLong;exact decide_eq_false #[0]
end
section
variable{X:Cx}
def rAppend:V->List V->Hp->VK->Prop:=fun x vs H Q=>∃ l xs y,x=.ref l/\vs=[y]/\H l=some (.lst xs)/\xs.length<sizeLine/\Q .non (upd H l (.lst (xs++[y])))
theorem zgb:MtM X "list.append" rAppend:=by
 intro pins s σ H x vs v us Q I rx rv h;obtain⟨l,xs,y,rfl,rfl,hH,hz,q⟩:=h;cases rx;obtain⟨u,rfl,ru⟩:=rv.one;obtain⟨z,its,n,r,hl,e⟩:=I.lstM hH;refine call_meets F.slot_list_append ⟨_,e,rfl⟩ F.entry_list_append (F.args_list_append_2 _ _) (PySem.list_append l its.toArray n u (by rw [YaZ];omega)) ⟨e,?_⟩
 refine⟨.non,_,I.lset (its':=its++[u]) hH e (by simp) (r.append (.cons ru .nil)) ?_,rfl,q⟩
 rw [YaS,List.length_singleton]
 omega
def rExtend:V->List V->Hp->VK->Prop:=fun x vs H Q=>∃ l b xs zs,x=.ref l/\vs=[.ref b]/\H l=some (.lst xs)/\H b=some (.lst zs)/\xs.length+zs.length<=sizeLine/\Q .non (upd H l (.lst (xs++zs)))
theorem ziZ:MtM X "list.extend" rExtend:=by
 intro pins s σ H x vs v us Q I rx rv h;obtain⟨l,b,xs,zs,rfl,rfl,hH,hB,hz,q⟩:=h;cases rx;obtain⟨u,rfl,ru⟩:=rv.one;cases ru;obtain⟨z,its,n,r,hl,e⟩:=I.lstM hH;obtain⟨z2,its2,n2,r2,hl2,e2⟩:=I.lstM hB;have hsz:its.toArray.size+its2.toArray.size<=sizeLine:=by rw [YaZ,YaZ];omega
 have hlong:¬(!its.toArray.isEmpty&&Builtin.List.listTooLong (its.toArray.size+its2.toArray.size))=true:=by
  rw [zls hsz,Bool.and_false];exact Yal
 refine call_meets F.slot_list_extend ⟨_,e,rfl⟩ F.entry_list_extend (F.args_list_extend_2 _ _)
  (AutoSeq1.list_extend_list_list_0 l its.toArray n b its2.toArray n2 hlong (by rw [YaZ];omega) #[0]) ⟨e,e2,?_⟩
 refine⟨.non,_,I.lset (its':=its++its2) hH e (by simp) (r.append r2) ?_,rfl,q⟩
 rw [YaS]
 omega
end
section
variable{prog:Program}{w:World}{A:Around}{E:#[11]}{s:Shared}
end
section
variable{X:Cx}
end
end L2
namespace Att
open PySem PySem.W PySem.Calls PyProof.Rows
theorem zmj{P:Params}{h:Heap}:∀ (ns:List Int) (vs:#[28]),WellAll P h vs (ns.map WData.int)->IntsAre vs ns:=by
 intro ns
 induction ns with
 | nil=>
  intro vs w;rw [Wby] at w;cases w;exact .nil
 | cons n ns ih=>
  intro vs w;rw [Ya1] at w;cases w with
  | cons a b=>
   cases a;exact .cons _ _ (ih _ b)
theorem zjW{l:OpenLaw}{n:Nat}(hn:l.most=some n){P:Params}{h:Heap}{args:List WData}{vals:#[28]}
 (hpre:l.row.toRowW.claim.pre args=true) (hwl:WellAll P h vals args) :
 ∃ a vs ns,vals=[Value.ref a]/\args=[WData.list (ns.map WData.int)]/\h.get? a=some { cls:=.type "list", data:=.seq vs.toArray }/\IntsAre vs ns/\ns.length<=n:=by
 have hsh:WShape.hasAll [] args [.list .int]=true:=(pre_splitW hpre).1;have hc:l.pre.holds [] { args:=args }=true:=(pre_splitW hpre).2;obtain⟨d,r,rfl,h1,h2⟩:=hasAllW_cons hsh;obtain rfl:=hasAllW_nil h2;obtain⟨xs,rfl,h3⟩:=hasW_list h1;obtain⟨ns,rfl⟩:=items_int h3;have hlen:ns.length<=n:=by
  unfold OpenLaw.pre at hc;have h4:(WTm.not (.lt (.lit (.int (n:Int))) (.len (.arg 0)))).holds [] { args:=[.list (ns.map .int)] }=true:=by
   have h4:=(holds_andW hc).1;rw [hn] at h4;exact h4
  have h5:=condW_of h4 (w_not (w_lt w_lit (w_len_list (w_arg rfl))));rw [YaR] at h5;refine Nat.le_of_not_lt fun q=>?_
  have q':(n:Int)<((ns.length:Nat):Int):=#[0]
  first
   | (rw [decide_eq_true q'] at h5;exact absurd h5 #[1])
   | (simp at h5;omega)
 cases hwl with
 | cons w1 w2=>
  cases w2;cases w1 with
  | list ho hall=>exact⟨_,_,ns,rfl,rfl,ho,zmj ns _ hall,hlen⟩
theorem zgP(l:OpenLaw)(args:List WData):l.row.toRowW.claim.post args (.bool true) args=true:=
 postW_of (r:=l.row.toRowW) (X:=(true==true))
  (show WShape.has [] (.bool true) .bool=true by first|rfl|decide|simp [WShape.has,WShape.arms,WShape.armsAll])
  (show(WTm.eq .res (.lit (.bool true))).value [] { args:=args,res:=some (.bool true),after:=args }=some (.bool (true==true)) from w_eq_bool (w_res rfl) w_lit) rfl
theorem attach_call{l:OpenLaw}{n:Nat}{q:Program}{loose:List Str}{XP:(Str->Option Value)->Heap->Prop}{YP:World->Heap->Prop}{d:DefRec}
 (hn:l.most=some n) (hdf:d.params.defaults=[])
 (call:∀ (w:World) (s₀ s₁ : Shared) (mg mb:#[15]) (fa:Addr) (o:Obj) (pm cd doc:Value) (a:Addr) (vs:#[28]) (ns:List Int),
  Ground q loose [] XP w s₀ mg mb s₁.heap->YP w s₁.heap->
  s₁.heap.get? fa=some o->o.data=.func (docDef d.name d.params d.body d.scope pm cd doc)->s₁.heap.CodeRec cd d.name->mg d.name=some (.ref fa)->
  s₁.heap.get? a=some { cls:=.type "list", data:=.seq vs.toArray }->IntsAre vs ns->ns.length<=n->s₁.gens = #[]->
  codeAny (model l.prog w) callerA (.call (.ref fa) ⟨[.ref a],[]⟩) (fun r s'=>r=.ok (.ret (.bool true))/\OldK s₁.heap s'.heap/\s'.os=s₁.os/\AllBare s'.gens) s₁) :
 WalkO q loose XP YP l.row.toRowW d [] (fun f vs=>PySem.call f vs):=by
 intro w s₀ s₁ mg mb G Y fa o pm cd doc dV kV ho hd hcd hD hmg hg args vals as hpre hlay hrd hwl hlo;obtain rfl:dV=.none:=Dflts.none hD hdf;obtain rfl:kV=.none:=Dflts.noKw hD;obtain⟨a,vs,ns,rfl,rfl,hobj,hints,hlen⟩:=zjW hn hpre hwl;refine enter_call (codeAny_mono (call w s₀ s₁ mg mb fa o pm cd doc a vs ns G Y ho (fd_plain hd) hcd hmg hobj hints hlen hg) fun r s' hq=>?_)
 obtain⟨rfl,h2,h3,h4⟩:=hq;exact⟨.inl ⟨.bool true,.bool true,[],rfl,fun _=>rfl,.bool true,zgP l _,fun _=>⟨List.Pairwise.nil,fun _ hm=>(nomatch hm)⟩⟩,h2,h3,h4⟩
section
variable{prog:Program}{w:World}{A:Around}{E:#[11]}{s:Shared}{K:Frag}
end
end Att
namespace L2
open PySem PySem.Spec PyProof.Rows
theorem zbH:∀ {vs:#[28]} {ns:List Int},IntsAre vs ns->Vals (ns.map V.int) vs
 | _,_,.nil=>.nil
 | _,_,.cons n t h=>.cons ⟨t,rfl⟩ (zbH h)
def Only(H:Hp):Prop:=∀ b,H b=none\/∃ o xs,H b=some (.frz o (.lst xs))
theorem zm3{P:Program}{w:World}{K:Ybf}{mg mb:#[15]}{CX:CXT}{k:Nat}{fa a:Addr}{fd:FuncData}{x:Str}{sp:Sp}{s₁ : Shared}{vs:#[28]}{ns:List Int}
 (KX:K.In s₁.heap) (hns:s₁.heap.Ns mainGlobals mg) (hb:s₁.heap.Ns builtinsNs mb) (hbb:∀ x:Str,x≠"__name__"->mb x=bootBuiltins x) (hlim:s₁.heap.NoLimit) (hg:s₁.gens = #[])
 (ha:s₁.heap.get? a=some { cls:=.type "list", data:=.seq vs.toArray }) (hi:IntsAre vs ns) (hl:ns.length<=sizeLine) (hr:Room k callerA)
 (F:∀ base:Heap,K.In base->base.Ns mainGlobals mg->FnOk P w K mg base CX k fa fd [x] sp) (hbind:∀ (s:Shared) (u:Value),BindsTo s fd ⟨[u],[]⟩ [(x,u)])
 (hsp:∀ H:Hp,Only H->SqL K H a (ns.map V.int)->sp [.ref a] H (fun v _=>v=.bl true) fun _ _ _=>False)
 (hCX:∀ H e s',CX [] H s₁ (fun _ _ _=>False) e s'->False) :
 codeAny (model P w) callerA (.call (.ref fa) ⟨[.ref a],[]⟩) (fun r s'=>r=.ok (.ret (.bool true))/\OldK s₁.heap s'.heap/\s'.os=s₁.os/\AllBare s'.gens) s₁:=by
 have rv:=zbH hi;have lenV:=hi.length;have core:∀ H:Hp,Only H->SqL K H a (ns.map V.int)->HOk P w H s₁.heap->(∀ b,H b≠none->b=a)->(H a≠none->K.lookup a=none)->
  codeAny (model P w) callerA (.call (.ref fa) ⟨[.ref a],[]⟩) (fun r s'=>r=.ok (.ret (.bool true))/\OldK s₁.heap s'.heap/\s'.os=s₁.os/\AllBare s'.gens) s₁:=by
  intro H hO hS hok hA hK;have base_of:∀ {b:Addr} {o:Obj},s₁.heap.get? b=some o->H b=none->(hidT s₁.heap H).get? b=some o:=fun e n=>zif e n
  have noA:∀ {b:Addr} {o:Obj} {es:Array DictEntry} {ep:Nat},s₁.heap.get? b=some o->o.data=.dict es ep->H b=none:=fun {b o es ep} e d=>by
   cases q:H b with
   | none=>rfl
   | some u=>
    have e':b=a:=hA b (by rw [q];simp)
    subst e';rw [ha] at e;cases e;have d':Data.seq vs.toArray _=Data.dict es ep:=d;cases d'
  have nsK:∀ {b:Addr} {m:#[15]},s₁.heap.Ns b m->(hidT s₁.heap H).Ns b m:=fun {b m} ⟨o,es,ep,e,d,r⟩=>⟨o,es,ep,base_of e (noA e d),d,r⟩
  have hKb:K.In (hidT s₁.heap H):=fun b o e=>base_of (KX b o e) (by
   cases q:H b with
   | none=>rfl
   | some u=>
    have e':b=a:=hA b (by rw [q];simp)
    subst e';rw [hK (by rw [q];simp)] at e;cases e)
  have hM:Mod K mg (hidT s₁.heap H):=⟨hKb,nsK hns,⟨mb,nsK hb,hbb⟩,let ⟨mc,h1,h2⟩:=hlim;⟨mc,nsK h1,h2⟩⟩;have e0:Env0 P w K mg (hidT s₁.heap H) callerA [] s₁ H:=⟨rfl,hM,fun b o e=>zlD e,Nat.le_of_eq (zkn _ _),trivial,fun b hb=>absurd (show b∈([]:List Addr) from hb) (by simp),hok,.of_eq hg⟩
  refine codeAny_mono ((F _ hKb (nsK hns)).run callerA [] s₁ H ⟨[.ref a],[]⟩ [.ref a] [.ref a] _ _ hr e0 (hbind s₁ (.ref a)) (.cons rfl .nil) (hsp H hO hS)) fun r s' h=>?_
  cases r with
  | error e=>exact(hCX H e s' h).elim
  | ok fl=>
   cases fl with
   | next=>exact False.elim h
   | brk=>exact False.elim h
   | cont=>exact False.elim h
   | ret u=>
    obtain⟨v,H',os,bare,un,hok',r',q⟩:=h;have q':v=.bl true:=q;subst q';obtain rfl:u=Value.bool true:=r';refine⟨rfl,OldK.of_keep fun b o e=>?_,os,bare⟩
    cases q:H b with
    | none=>exact un.keep b o e q (by intro z;exact absurd (show b∈([]:List Addr) from z) (by simp)) (by simp)
    | some u=>
     rcases hO b with z|⟨ob,xs,z⟩
     . rw [q] at z;cases z
     . have z2:=un.frzs b ob _ z
       obtain⟨e1,_⟩:=hok b _ z;obtain⟨e2,_⟩:=hok' b _ z2;rw [e] at e1;cases e1;exact e2
 cases hk:K.lookup a with
 | some o=>
  have e:=KX a o hk;rw [ha] at e;cases e;refine core (fun _=>none) (fun _=>.inl rfl) (.inr ⟨_,vs.toArray,_,hk,rfl,rfl,rfl,by rw [YaZ,lenV];exact hl,by simpa using rv⟩) (fun b u z=>by have z':(none:Option HO)=some u:=z;cases z') (fun b z=>absurd rfl z) fun z=>absurd rfl z
 | none=>
  refine core (fun b=>if b=a then some (.frz { cls:=.type "list", data:=.seq vs.toArray } (.lst (ns.map V.int))) else none) (fun b=>?_) (.inl (.inr ⟨{ cls:=.type "list", data:=.seq vs.toArray },if_pos rfl⟩)) (fun b u z=>?_) (fun b z=>?_) fun _=>hk
  . by_cases hb:b=a
    . exact .inr ⟨_,_,if_pos hb⟩
    . exact .inl (if_neg hb)
  . by_cases hb:b=a
    . have z':=(if_pos hb).symm.trans z
      cases z';subst hb
      exact⟨ha,by rw [YaR];exact hl,vs,_,rv,ha⟩
    . have z':=(if_neg hb).symm.trans z
      cases z'
  . by_cases hb:b=a
    . exact hb
    . exact absurd (if_neg hb) z
theorem zka{l:PySem.W.OpenLaw}{n k:Nat}{q:Program}{loose:List Str}{XP:(Str->Option Value)->Heap->Prop}{YP:World->Heap->Prop}{d:DefRec}{K:Params->Ybf}{CX:World->CXT}{sp:World->Sp}{x:Str}
 (hn:l.most=some n) (hn2:n<=sizeLine) (hdf:d.params.defaults=[]) (hr:Room k callerA)
 (hY:∀ (w:World) (h:Heap),YP w h->(K w.params).In h)
 (F:∀ (w:World) (mg:#[15]) (fa:Addr) (h:Heap),(K w.params).In h->h.Ns mainGlobals mg->mg d.name=some (.ref fa)->
  ∃ fd:FuncData,(∀ (s:Shared) (u:Value),BindsTo s fd ⟨[u],[]⟩ [(x,u)])/\
   ∀ base:Heap,(K w.params).In base->base.Ns mainGlobals mg->FnOk l.prog w (K w.params) mg base (CX w) k fa fd [x] (sp w))
 (hsp:∀ (w:World) (H:Hp) (a:Addr) (ns:List Int),ns.length<=n->Only H->SqL (K w.params) H a (ns.map V.int)->sp w [.ref a] H (fun v _=>v=.bl true) fun _ _ _=>False)
 (hCX:∀ (w:World) (H:Hp) (s:Shared) (e:Value) (s':Shared),CX w [] H s (fun _ _ _=>False) e s'->False) :
 PySem.W.WalkO q loose XP YP l.row.toRowW d [] (fun f vs=>PySem.call f vs):=by
 refine Att.attach_call hn hdf fun w s₀ s₁ mg mb fa o pm cd doc a vs ns G Y ho hd hcd hmg hobj hints hlen hg=>?_
 have KX:=hY w _ Y;obtain⟨fd,hb,hF⟩:=F w mg fa _ KX G.T.g hmg;exact zm3 KX G.T.g G.T.b G.T.builtins G.T.nolimit hg hobj hints (Ya5 hlen hn2) hr hF hb (fun H hO hS=>hsp w H a ns hlen hO hS) fun H e s'=>hCX w H s₁ e s'
def ZM(s:Stmt):Arguments:=match s with
 | .FunctionDef _ a _ _ _ _ _ _ _ _=>a
 | _=>{ posonlyargs:=[],args:=[],vararg:=none,kwonlyargs:=[],kw_defaults:=[],kwarg:=none,defaults:=[] }
def Jd(s:Stmt):List Stmt:=match s with
 | .FunctionDef _ _ b _ _ _ _ _ _ _=>b
 | _=>[]
def zh(s:Stmt):Scope:=match s with
 | .FunctionDef _ _ _ _ _ _ sc _ _ _=>sc
 | _=>{ kind:=.function,names:=[],isGenerator:=false,isCoroutine:=false }
abbrev CX0:CXT:=fun _ _ _ _ _ _=>False
structure Fun(K:Ybf)(x qual:Str)(st:Stmt)(f:Addr)(fd:FuncData):Prop where
 ex:∃ (oc:Value) (od:Option Addr) (kV doc pm:Value) (an:Option Addr) (cdv ct:Value) (osl:Array (Option Value)),
  fd=PySem.W.fnOf x qual (ZM st) (Jd st) (zh st) .none kV doc pm an cdv ct/\K.lookup f=some ⟨oc,od,.func fd,osl⟩/\PySem.W.codeIn K cdv qual=true
 kp:PySem.W.keepIn K (.ref f)=true
section
variable{P:Program}{w:World}{K:Ybf}{mg:#[15]}{base:Heap}
theorem Fun.ok{x qual:Str}{st:Stmt}{f:Addr}{fd:FuncData}{N ps:List Str}{k:Nat}{sp:Sp}(F:Fun K x qual st f fd)(S:FnScope N ps (zh st))(len:∀ vs H Q E,sp vs H Q E->vs.length=ps.length)
 (hbody:∀ (cdv:Value) (A:Around) (outer:List Env) (s:Shared) (H:Hp) (vs:List V) (Q:VK) (E:XK),Room k (A.deeper (envOfC qual (zh st) s.heap.objs.size f cdv))->sp vs H Q E->
  ∃ t,PSs (cxOf CX0 P w K mg base N qual (zh st) f cdv A outer s H E).nox (Jd st) t/\t { nx:=fun _ H'=>Q .non H',rt:=Q } (start N vs) H):FnOk P w K mg base CX0 (k+1) f fd ps sp:=by
 obtain⟨oc,od,kV,doc,pm,an,cdv,ct,osl,rfl,lk,hcd⟩:=F.ex;refine zgw lk hcd S len fun A outer s H vs Q E hr hsp=>?_
 obtain⟨t,h,q⟩:=hbody cdv A outer s H vs Q E hr hsp;exact⟨t,h.nox,q⟩
theorem Fun.binds{x qual:Str}{st:Stmt}{f:Addr}{fd:FuncData}{ps:List Str}(F:Fun K x qual st f fd)
 (h:∀ (kV doc pm:Value) (an:Option Addr) (cdv ct:Value) (us:#[28]),us.length=ps.length->bindArgs (PySem.W.fnOf x qual (ZM st) (Jd st) (zh st) .none kV doc pm an cdv ct) ⟨us,[]⟩=pure (ps.zip us)):Binds K fd ps []:=by
 obtain⟨oc,od,kV,doc,pm,an,cdv,ct,osl,rfl,lk,hcd⟩:=F.ex;exact .all (h kV doc pm an cdv ct)
theorem zi9{x qual:Str}{st:Stmt}{f:Addr}{oc:Value}{od an:Option Addr}{osl:Array (Option Value)}{kV doc pm cdv ct:Value}(l:K.lookup f=some ⟨oc,od,.func (PySem.W.fnOf x qual (ZM st) (Jd st) (zh st) .none kV doc pm an cdv ct),osl⟩)
 (c:PySem.W.codeIn K cdv qual=true) (k:PySem.W.keepIn K (.ref f)=true):Fun K x qual st f (PySem.W.fnOf x qual (ZM st) (Jd st) (zh st) .none kV doc pm an cdv ct):=⟨⟨oc,od,kV,doc,pm,an,cdv,ct,osl,rfl,l,c⟩,k⟩
end
theorem jK{A:Around}{k:Nat}(hr:Room k A):A.units+1<cLine:=WaG (Nat.add_le_add_left (by decide:1<=64) _) hr.units
section
variable{X:Cx}
end
theorem ite2{c A B:Prop}[Decidable c](h1:c->A)(h2:¬c->B):if c then A else B:=by
 by_cases h:c
 . rw [if_pos h]
   exact h1 h
 . rw [if_neg h]
   exact h2 h
def Same(H H':Hp):Prop:=∀ b o,H b=some o->H' b=some o
theorem Same.refl(H:Hp):Same H H:=fun _ _ h=>h
theorem Same.trans{H H1 H2:Hp}(a:Same H H1)(b:Same H1 H2):Same H H2:=fun c o h=>b c o (a c o h)
theorem Same.free{H H':Hp}(e:Same H H'){l:Addr}(h:H' l=Option.none):H l=Option.none:=by
 cases q:H l with
 | none=>rfl
 | some o=>
  rw [e l o q] at h;cases h
theorem Same.seq{K:Ybf}{H H':Hp}{a:Addr}{xs:List V}(e:Same H H')(h:SqL K H a xs):SqL K H' a xs:=by
 rcases h with (h|⟨o,h⟩)|h
 . exact .inl (.inl (e _ _ h))
 . exact .inl (.inr ⟨o,e _ _ h⟩)
 . exact .inr h
end L2
end
set_option Elab.async false
set_option linter.all false
set_option maxRecDepth 100000
namespace L2
open PySem PySem.Spec PyProof.Rows
def Bits(k:Nat)(x:Int):Prop:=x.natAbs<2 ^ k
theorem Bits.mono{j k:Nat}{x:Int}(h:Bits j x)(hk:j<=k):Bits k x:=YaU h (Nat.pow_le_pow_right #[1] hk)
theorem Bits.mul{j k:Nat}{x y:Int}(h:Bits j x)(h':Bits k y):Bits (j+k) (x*y):=by
 unfold Bits at *;rw [Int.natAbs_mul,Nat.pow_add];exact Nat.mul_lt_mul'' h h'
theorem Bits.neg{k:Nat}{x:Int}(h:Bits k x):Bits k (-x):=by unfold Bits at *;rw [Int.natAbs_neg];exact h
theorem Bits.add{k:Nat}{x y:Int}(h:Bits k x)(h':Bits k y):Bits (k+1) (x+y):=by
 unfold Bits at *;have:=Int.natAbs_add_le x y;rw [Nat.pow_succ];omega
theorem Bits.sub{k:Nat}{x y:Int}(h:Bits k x)(h':Bits k y):Bits (k+1) (x - y):=by
 have:=h.add h'.neg;rwa [<-Int.sub_eq_add_neg] at this
theorem Bits.le{k:Nat}{x y:Int}(h:Bits k x)(hy:y.natAbs<=x.natAbs):Bits k y:=WaG hy h
theorem Bits.log2{k:Nat}{x:Int}(h:Bits k x)(hk:0<k):x.natAbs.log2<k:=by
 rcases Nat.eq_zero_or_pos x.natAbs with h0|hp
 . rw [h0];exact hk
 . exact(Nat.log2_lt (Wbx hp)).mpr h
theorem Bits.bits{k:Nat}{x:Int}(h:Bits k x):Builtin.Int.intBits x<=k:=by
 unfold Builtin.Int.intBits
 split
 . exact WbF _
 . rename_i hx
   have hx':x.natAbs≠0:=by
    intro e;apply hx;rw [Int.natAbs_eq_zero.mp e];rfl
   exact(Nat.log2_lt hx').mpr h
theorem Bits.mulOk{j k:Nat}{x y:Int}(h:Bits j x)(h':Bits k y)(hk:j+k<=134217728):IntMulOk x y:=by
 unfold IntMulOk;have e1:=h.bits;have e2:=h'.bits;have e:Builtin.Int.intTooBig ((Builtin.Int.intBits x:Int)+(Builtin.Int.intBits y:Int))=false:=by
  unfold Builtin.Int.intTooBig;refine decide_eq_false ?_;have:(bitsLine:Nat)=134217728:=by unfold bitsLine;decide
  omega
 intro z;rw [Yak] at z;have z2:=z.2;rw [e] at z2;cases z2
section
variable{X:Cx}
theorem zkB:OpR X (binaryOp .Mult) (rI IntMulOk fun i j=>.int (i*j)):=opI fun _ _ _ _ _ _ _ hc q=>mul_int q hc
def Jz(i j:Int):Prop:=0<=j/\(Builtin.Int.intBits i:Int)*j<=134217728
theorem zha:OpR X (binaryOp .Pow) (rI Jz fun i j=>.int (i ^ j.toNat)):=opI fun i j _ _ _ _ _ hc q=>by
 refine pow_int hc.1 ?_ q
 have e:((2:Int) ^ 27)=134217728:=#[1]
 rw [e];exact hc.2
def Its(lo st:Int)(n:Nat):It:=⟨fun i _=>i<n,fun i H x H'=>H'=H/\x=.int (lo+i*st),fun i _=>n<=i⟩
theorem zma{P:Program}{w:World}{K:Ybf}{tg:Expr}(it:Addr)(lo st:Int)(n:Nat):Turn P w K tg (Its lo st n) [it] it (fun i h=>IsRangeIter h it (lo+(i:Nat)*st) ((n:Int) - (i:Nat)) st) where
 mem:=by simp
 obj:=fun i h g b hb=>by
  have e:b=it:=by simpa using hb
  subst e;exact⟨_,g,fun v z=>by
   have z':Data.fields _=Data.cell v:=z;cases z'⟩
 keep:=fun i h h' g k=>k it (by simp) _ g
 item:=by
  intro X hP hw hK hc i pins s σ H E I hf g hg;subst hP hw hK;obtain⟨f0,f1,f2,f3,f4,f5⟩:=hf it (by simp)
  have W:=Walks.range (prog:=X.prog) (w:=X.w) #[67] it lo st n;refine W.item i s _ _ hg g fun v h' tk hv g' kk=>?_
  obtain⟨t,rfl⟩:=hv;have I1:Inv X pins σ H { s with heap:=h',toks:=tk }:=I.turned (fun b o hb e=>kk b o (by simpa using hb) e) f0 f1 f3 f4 f5
  exact⟨_,rfl,zby (s:={ s with heap:=h',toks:=tk }) (n:="range_iterator") g' rfl rfl #[1] ⟨.int (lo+i*st),H,I1,⟨t,rfl⟩,⟨rfl,rfl⟩,g',fun b hb=>(hf b hb).1⟩⟩
 done:=by
  intro X hP hw hK hc i pins s σ H E I hf g hg;subst hP hw hK;obtain⟨f0,f1,f2,f3,f4,f5⟩:=hf it (by simp)
  exact wpAny_pyNext_range_end #[67] g (by have:n<=i:=hg;omega) fun h' eb=>⟨rfl,I.turned (t':=s.toks) (fun b o hb e=>eb b o hb e) f0 f1 f3 f4 f5⟩
 self:=fun _ _ _ _ _ g h=>wpAny_pyIter_rangeiter g h
end
theorem zK.got{P:Program}{w:World}{H:Hp}{h:Heap}{a:Addr}{o:HO}(x:zK P w H h a o):∃ ob,h.get? a=some ob:=by
 cases o with
 | lst xs=>obtain⟨_,_,_,_,e⟩:=x;exact⟨_,e⟩
 | tup xs=>obtain⟨_,_,_,ob,e,_⟩:=x;exact⟨_,e⟩
 | dK kvs=>obtain⟨_,_,_,_,o,_,_,e,_⟩:=x;exact⟨_,e⟩
 | dT kvs=>obtain⟨_,_,_,_,o,_,_,e,_⟩:=x;exact⟨_,e⟩
 | set S n=>obtain⟨o,_,_,_,e,_⟩:=x;exact⟨_,e⟩
 | ins C dx fs=>obtain⟨_,_,_,e,_⟩:=x;exact⟨_,e⟩
 | own y=>obtain⟨_,e⟩:=x;exact⟨_,e⟩
 | xd fs=>obtain⟨_,⟨_,_,_,e,_⟩,_⟩:=x;exact⟨_,e⟩
 | rng lo hi=>obtain⟨_,_,_,e⟩:=x;exact⟨_,e⟩
 | frz ob u=>obtain⟨e,_⟩:=x;exact⟨_,e⟩
 | tbl ps=>exact⟨_,(show h.get? a=some _ from x)⟩
 | met f y=>exact⟨_,(show h.get? a=some _ from x)⟩
 | ext φ=>obtain⟨_,⟨_,e⟩,_⟩:=x;exact⟨_,e⟩
theorem HOk.through{P:Program}{w:World}{H:Hp}{B h h':Heap}(x:HOk P w H h)(k:B.StaysIn h)(k':B.StaysIn h')(t:∀ b o,H b=some o->∃ o',B.get? b=some o'):HOk P w H h':=fun a o e=>
 (x a o e).stay (fun b u hb q=>by
  have hB:∃ ob,B.get? b=some ob:=by
   rcases hb with z|z
   . exact t b o (z ▸ e)
   . exact t b _ z
  obtain⟨ob,hob⟩:=hB;have e1:=k b ob hob;rw [q] at e1;cases e1;exact k' b _ hob) (fun _ q=>q) fun _ _ q=>q
theorem Un.through{fs:#[55]}{H H':Hp}{B h h1 h2:Heap}(un:Un fs [] H H' h h1)(cov:∀ b o,h.get? b=some o->b∉fs->∃ o',B.get? b=some o')(k:B.StaysIn h1)(k':B.StaysIn h2)
 (fr:∀ b∈fs,∀ o,h1.get? b=some o->∃ sl,h2.get? b=some { o with slots:=sl }):Un fs [] H H' h h2 where
 keep:=fun b o q n hb hx=>by
  obtain⟨o',ho⟩:=cov b o q hb;have e:=un.keep b o q n hb hx;have e1:=k b o' ho;rw [e] at e1;cases e1;exact k' b _ ho
 slot:=fun b o q n hb hx=>by
  obtain⟨sl,e⟩:=un.slot b o q n hb hx;obtain⟨sl',e'⟩:=fr b hb _ e;exact⟨sl',e'⟩
 free:=un.free
 there:=fun b o q hx=>by
  by_cases hb:b∈fs
  . obtain⟨o',e⟩:=un.there b o q hx
    obtain⟨sl,e'⟩:=fr b hb _ e;exact⟨_,e'⟩
  . obtain⟨o',ho⟩:=cov b o q hb
    exact⟨o',k' b _ ho⟩
 tups:=un.tups
 frzs:=un.frzs
 tbls:=un.tbls
structure Fly(P:Program)(w:World)(stack:List Env)(H:Hp)(s:Shared)(ea C:Addr)(H':Hp)(s':Shared):Prop where
 os:s'.os=s.os
 bare:AllBare s'.gens
 un:Un (frs stack) [] H H' s.heap s'.heap
 hok:HOk P w H' s'.heap
 fly:∃ B a0,Heap.FlyingW B stack ea (.ref C) a0 s'.heap/\(∀ b o,s.heap.get? b=some o->b∉frs stack->∃ o',B.get? b=some o')/\(∀ b o,H' b=some o->∃ o',B.get? b=some o')
def CXR(P:Program)(w:World):CXT:=fun outer H s E e s'=>∃ ea C H',e=.ref ea/\Fly P w outer H s ea C H' s'/\E (.ref C) none H'
theorem zgU{B h h':Heap}{l:List Env}(fr:h.FunFrames B l)(sm:h.UpToSlots h'):∀ b∈frs l,∀ o,h.get? b=some o->∃ sl,h'.get? b=some { o with slots:=sl }:=fun b hb o ho=>by
 obtain⟨_,o2,ho2,hd⟩:=fr.mem hb;rw [ho] at ho2;cases ho2;exact sm b o ho hd
section
variable{P:Program}{w:World}{K:Ybf}{mg:#[15]}{base:Heap}{N:List Str}{qual:Str}{scope:Scope}{f:Addr}{cd:Value}{A:Around}{outer:List Env}{s₀ : Shared}{H₀ : Hp}{E:XK}{CX:CXT}
theorem zeE{pins:List #[17]}{σ : St}{H:Hp}{s:Shared}(I:Inv (cxOf CX P w K mg base N qual scope f cd A outer s₀ H₀ E) pins σ H s){b:Addr}{o:Obj}(q:s₀.heap.get? b=some o)(hb:b∉frs outer) :
 b∉frs (cxOf CX P w K mg base N qual scope f cd A outer s₀ H₀ E).stack:=fun z=>by
 rcases Wbm.mp (I.stkSub b z) with e|e
 . have h1:=YaX q
   rw [show b=s₀.heap.objs.size from e] at h1
   exact Yap _ h1
 . exact hb e
theorem zfr{pins:List #[17]}{σ : St}{H:Hp}{s:Shared}(I:Inv (cxOf CX P w K mg base N qual scope f cd A outer s₀ H₀ E) pins σ H s){b:Addr}{o:Obj}(q:s₀.heap.get? b=some o):∃ o',s.heap.get? b=some o':=
 I.base.there b o q (fun z=>absurd (show b∈([]:List Addr) from z) (by simp))
theorem zo:Passes (CXR P w) (cxOf (CXR P w) P w K mg base N qual scope f cd A outer s₀ H₀ E) E:=by
 intro pins σ H s e s' I h;obtain⟨ea,C,H',rfl,F,q⟩:=h;obtain⟨B,a0,fl,cov,trk⟩:=F.fly;have J:=I.call' (ch:=[]) F.os F.un F.hok F.bare (fun b z=>absurd z (by simp))
 have cov':∀ b o,s₀.heap.get? b=some o->b∉frs outer->∃ o',B.get? b=some o':=fun b o z hb=>by
  obtain⟨o1,h1⟩:=zfr I z;exact cov b o1 h1 (zeE I z hb)
 refine wpAny_leaves_onW (base:=B) (outer:=outer) (L:=s₀.heap.objs.size) I.ok.frames rfl fl fun h' fl' sm=>?_
 have fr:=zgU (fl.2.2.1).2.2 sm;exact⟨ea,C,H',rfl,⟨J.os,F.bare,J.base.through cov' fl.1 fl'.1 fr,F.hok.through fl.1 fl'.1 trk,B,a0,fl',cov',trk⟩,q⟩
def Flies(X:Cx)(E:XK):Prop:=∀ (pins:List #[17]) (σ : St) (H:Hp) (s:Shared) (e C:Addr) (vs:#[28]) (h1:Heap),Inv X pins σ H s->Heap.MadeExcOf s.heap h1 e (.ref C) vs->E (.ref C) none H->X.xe (.ref e) { s with heap:=h1 }
theorem jz:Flies (cxOf (CXR P w) P w K mg base N qual scope f cd A outer s₀ H₀ E) E:=by
 intro pins σ H s e C vs h1 I M q;have kB:(PySem.W.hideAll s.heap (frs (cxOf (CXR P w) P w K mg base N qual scope f cd A outer s₀ H₀ E).stack)).StaysIn s.heap:=fun b o z=>PySem.W.of_hideAll _ z
 have trk:∀ b o,H b=some o->∃ o',(PySem.W.hideAll s.heap (frs (cxOf (CXR P w) P w K mg base N qual scope f cd A outer s₀ H₀ E).stack)).get? b=some o':=fun b o z=>by
  obtain⟨ob,hob⟩:=(I.hok b o z).got;exact⟨ob,PySem.W.hideAll_get _ hob fun hm=>by rw [I.stkFree b hm] at z;cases z⟩
 have cov:∀ b o,s₀.heap.get? b=some o->b∉frs outer->∃ o',(PySem.W.hideAll s.heap (frs (cxOf (CXR P w) P w K mg base N qual scope f cd A outer s₀ H₀ E).stack)).get? b=some o':=fun b o z hb=>by
  obtain⟨o1,h1⟩:=zfr I z;exact⟨o1,PySem.W.hideAll_get _ h1 (zeE I z hb)⟩
 refine wpAny_leaves_madeW (base:=PySem.W.hideAll s.heap (frs (cxOf (CXR P w) P w K mg base N qual scope f cd A outer s₀ H₀ E).stack)) (h:=s.heap) (outer:=outer) (L:=s₀.heap.objs.size) I.ok.frames rfl kB
  (PySem.W.funFrames_hide I.stack fun env he b hb=>List.mem_filterMap.mpr ⟨env,he,hb⟩) M fun h' t fl tu bt sm=>?_
 have fr:∀ b∈frs outer,∀ o,s.heap.get? b=some o->∃ sl,h'.get? b=some { o with slots:=sl }:=fun b hb o ho=>by
  obtain⟨_,o2,ho2,hd⟩:=I.funs.mem hb;rw [ho] at ho2;cases ho2;exact sm b o (M.keeps b o ho) hd
 exact⟨e,C,H,rfl,⟨I.os,I.bare,I.base.through cov kB fl.1 fr,I.hok.through kB fl.1 trk,_,_,fl,cov,trk⟩,q⟩
end
def bmVE:List Value:=[.type "ValueError", .type "Exception", .type "BaseException", .type "object"]
theorem zlG{K:Ybf}{h:Heap}{C:Addr}(X:K.In h)(q:PySem.W.excIn K C bmVE "ValueError.__new__" = true) :
 ∃ bm N nm qn bs hdct sn sub ab col dd k0 k1 k2 k3 k5 mN,h.get? C=some (excClassObj nm qn C N bs bm hdct sn sub ab col dd k0 k1 k2 k3 k5 "ValueError.__new__")/\h.Ns N mN/\mN "__init__" = none/\OwnTail h bmVE bm:=by
 unfold PySem.W.excIn at q
 split at q
 . rename_i dd cdx sl ho
   split at q
   . rename_i C' bm k0 k1 k2 k3 n k5 hm hs
     rw [Yak,Yak,Yak,Yak,Yak] at q;obtain⟨⟨⟨⟨⟨q1,q2⟩,q3⟩,q4⟩,q5⟩,q6⟩:=q;have e1:C'=C:=beq_iff_eq.mp q1;have e2:n = "ValueError.__new__":=beq_iff_eq.mp q2;have e6:=beq_iff_eq.mp q6;obtain⟨nm,bs,mro,ns,qn,hd,sn,sub,ab,col,del⟩:=cdx;obtain⟨l⟩:=sl;dsimp only at hm q3 q5 e6 hs;have e3:del=false:=by simpa using q3
     subst e1 e2 e3 hm hs;exact⟨bm,ns,nm,qn,bs,hd,sn,sub,ab,col,dd,k0,k1,k2,k3,k5,_,X _ _ ho,.of_isNs (PySem.W.isNs_of_in X q5),PySem.W.nsMap_none_of_in X q5 e6,PySem.W.tail_of_in X q4⟩
   . cases q
 . cases q
def zne(C:Addr)(E:XK)(t:TA):TS:=fun _ σ H=>t σ H fun vs H1=>vs.length<=sizeLine/\E (.ref C) none H1
theorem zjq{X:Cx}{x:Str}{C:Addr}{e0:Expr}{t:TA}{E:XK}{np cpos pos:Pos}(hf:Flies X E)(hc:X.calm=true)(hg:Gl X x)(hm:X.mg x=some (.ref C))(hx:PySem.W.excIn X.K C bmVE "ValueError.__new__" = true)(ha:PA X [e0] t)
 (hdb:#[21]:=by decide) (hs:starEach [e0] X.env=[(false,eval e0 X.env)]:=by rfl):PS X (.Raise (some (.Call #[36] [e0] [] cpos)) none pos) (zne C E t):=by
 intro pins s σ H D I h;obtain⟨bm,Nn,nm,q,bs,hdct,sn,sub,ab,col,dd,k0,k1,k2,k3,k5,mN,hC,hN,hni,T⟩:=zlG I.ok.mod.kin hx;refine wpAny_Raise_call_subT (C:=C) (nm:=nm) (q:=q) (N:=Nn) (bs:=bs) (bm:=bm) (hdct:=hdct) (sn:=sn) (sub:=sub) (ab:=ab) (col:=col) (dd:=dd) (k0:=k0) (k1:=k1) (k2:=k2) (k3:=k3) (k5:=k5)
  PySem.F.excBase_ValueError (mN:=mN) (T.hasType rfl) #[67] (by rw [hs];rfl) hni (zcN I hg hm ⟨rfl,?_⟩ hdb)
 have h1:=ha cpos pins s σ H _ I h;rw [hs] at h1 ⊢;refine Calls.evalArgs_plain (wpAny_mono h1 (fun us s2 z=>?_) fun _ _ z=>z)
 obtain⟨vs,H1,I1,r,z,qE⟩:=z;exact⟨rfl,by show us.length<=sizeLine;rw [<-r.length];exact z,I1.bk _ _ hC,hN.keeps I1.bk,T.keeps I1.bk,fun h' e M=>hf pins σ H1 s2 e C us h' I1 M qE⟩
theorem Fun.okR{P:Program}{w:World}{K:Ybf}{mg:#[15]}{base:Heap}{x qual:Str}{st:Stmt}{f:Addr}{fd:FuncData}{N ps:List Str}{k:Nat}{sp:Sp}(F:Fun K x qual st f fd)(S:FnScope N ps (zh st))(len:∀ vs H Q E,sp vs H Q E->vs.length=ps.length)
 (hbody:∀ (cdv:Value) (A:Around) (outer:List Env) (s:Shared) (H:Hp) (vs:List V) (Q:VK) (E:XK),Room k (A.deeper (envOfC qual (zh st) s.heap.objs.size f cdv))->sp vs H Q E->
  ∃ t,PSs (cxOf (CXR P w) P w K mg base N qual (zh st) f cdv A outer s H E) (Jd st) t/\t { nx:=fun _ H'=>Q .non H',rt:=Q } (start N vs) H):FnOk P w K mg base (CXR P w) (k+1) f fd ps sp:=by
 obtain⟨oc,od,kV,doc,pm,an,cdv,ct,osl,rfl,lk,hcd⟩:=F.ex;exact zgw lk hcd S len fun A outer s H vs Q E hr hsp=>hbody cdv A outer s H vs Q E hr hsp
abbrev TX:=Ends->(Addr->Hp->Prop)->St->Hp->Prop
def XE(X:Cx)(pins:List #[17])(σ : St)(E:Addr->Hp->Prop)(e:Value)(s':Shared):Prop:=
 ∃ ea C H1 s1 H',e=.ref ea/\Inv X pins σ H1 s1/\Fly X.prog X.w X.stack H1 s1 ea C H' s'/\E C H'
def PX(X:Cx)(st:List Stmt)(t:TX):Prop:=
 ∀ (pins:List #[17]) (s:Shared) (σ : St) (H:Hp) (D:Ends) (E:Addr->Hp->Prop),Inv X pins σ H s->t D E σ H->wpAny #[12] X.A (execs st X.env) (SP X pins D) (XE X pins σ E) s
theorem PA.nox{X:Cx}{es:#[54]}{t:TA}(h:PA X.nox es t)(pos:Pos){pins:List #[17]}{s:Shared}{σ : St}{H:Hp}{Q:List V->Hp->Prop}{E:#[11]}(I:#[13])(q:t σ H Q) :
 wpAny #[12] X.A (spliced (backTo pos #[46])) (AP X pins σ Q) E s:=
 wpAny_mono (h pos pins s σ H Q (I.wish _) q) (fun us s1 ⟨vs,H1,I1,r,q1⟩=>⟨vs,H1,I1.unwish,r,q1⟩) fun _ _ z=>z.elim
def excO(ea C:Addr):HO:=.ext fun h=>∃ o vs,h.get? ea=some o/\o.cls=.ref C/\o.data=.fields vs
abbrev Cx.inExc(X:Cx)(ea:Addr):Cx:={ X with A:=X.A.mark (some (.ref ea)),calm:=false,xe:=fun _ _=>False }
section
variable{X:Cx}{pins:List #[17]}{σ : St}{H:Hp}{s:Shared}
theorem Inv.exc(I:#[13])(ea:Addr):Inv (X.inExc ea) pins σ H s:=
 ⟨⟨I.ok.mod,I.ok.kind,I.ok.glob,I.ok.blt,I.ok.above,I.ok.inj,I.ok.has,I.ok.cab,(fun z=>absurd z Yal),I.ok.frames,I.ok.stk,I.ok.exf,I.ok.bs,I.ok.bsz,I.ok.noex,I.ok.exfs,I.ok.funs,I.ok.frf⟩,
  I.os,I.bare,I.base,I.loc,I.cell,I.free,I.freeC,I.pin,I.hok,I.len⟩
end
theorem HOk.track{P:Program}{w:World}{H:Hp}{h:Heap}{a:Addr}{o:HO}(x:HOk P w H h)(hn:H a=none)(new:zK P w (upd H a o) h a o):HOk P w (upd H a o) h:=fun b u e=>by
 by_cases hb:b=a
 . subst hb;rw [zt] at e;cases e;exact new
 . rw [zj hb] at e
   exact(x b u e).stay (fun c v _ q=>q) (fun c q=>by rw [zj (zZ q hn)];exact q) fun c xs q=>by rw [zj (zZ q hn)];exact q
theorem zcR:bootBuiltins "int" = some (.type "int"):=#[3]
theorem zed:bootBuiltins "bool" = some (.type "bool"):=#[3]
theorem JD:bootBuiltins "list" = some (.type "list"):=#[3]
theorem zmL:bootBuiltins "tuple" = some (.type "tuple"):=#[3]
theorem znr:bootBuiltins "zip" = some (.type "zip"):=#[3]
theorem zlv:bootBuiltins "range" = some (.type "range"):=#[3]
theorem zlq:bootBuiltins "isinstance" = some (.builtin "isinstance"):=#[3]
theorem zE:bootBuiltins "len" = some (.builtin "len"):=#[3]
theorem zc4:bootBuiltins "abs" = some (.builtin "abs"):=#[3]
theorem zb3:bootBuiltins "min" = some (.builtin "min"):=#[3]
theorem Jq:bootBuiltins "sum" = some (.builtin "sum"):=#[3]
theorem zly:bootBuiltins "all" = some (.builtin "all"):=#[3]
section
variable{prog:Program}{w:World}{A:Around}{E:#[11]}{s:Shared}{K:Ybf}{ea C:Addr}
end
section
variable{X:Cx}
def isB(t n:String):Option Bool:=
 if t = "int"/\n = "int" then some true else if t = "int"/\n = "bool" then some false else if t = "tuple"/\n = "tuple" then some true else if t = "list"/\n = "list" then some true
 else if t = "str"/\n = "str" then some true else if t = "bool"/\n = "bool" then some true else none
theorem zkY{K:Ybf}{t n:String}{b:Bool}(h:isB t n=some b):PySem.W.kitOne K (.type t) (.type n)=some b:=by
 unfold isB at h
 split at h
 . rename_i e;obtain⟨rfl,rfl⟩:=e;cases h;rfl
 split at h
 . rename_i e;obtain⟨rfl,rfl⟩:=e;cases h;rfl
 split at h
 . rename_i e;obtain⟨rfl,rfl⟩:=e;cases h;rfl
 split at h
 . rename_i e;obtain⟨rfl,rfl⟩:=e;cases h;rfl
 split at h
 . rename_i e;obtain⟨rfl,rfl⟩:=e;cases h;rfl
 split at h
 . rename_i e;obtain⟨rfl,rfl⟩:=e;cases h;rfl
 cases h
end
mutual
inductive RdV(K:Ybf)(H:Hp):V->PyData->Prop
 | non:RdV K H .non .none
 | bl (b):RdV K H (.bl b) (.bool b)
 | int (i):RdV K H (.int i) (.int i)
 | str (x):RdV K H (.str x) (.str x)
 | lst {a xs ds}:SqL K H a xs->RdVs K H xs ds->RdV K H (.ref a) (.list ds)
 | tup {a xs ds}:SqT K H a xs->RdVs K H xs ds->RdV K H (.ref a) (.tuple ds)
inductive RdVs(K:Ybf)(H:Hp):List V->List PyData->Prop
 | nil:RdVs K H [] []
 | cons {x xs d ds}:RdV K H x d->RdVs K H xs ds->RdVs K H (x::xs) (d::ds)
end
section
variable{X:Cx}{pins:List #[17]}{σ : St}{H:Hp}{s:Shared}
mutual
theorem RdV.reads(I:#[13]):∀ {x:V} {d:PyData} {u:Value},RdV X.K H x d->RelV x u->∃ as,Reads s.heap u d as
 | _,_,_,.non,r=>by cases r;exact⟨_,.none⟩
 | _,_,_,.bl b,r=>by cases r;exact⟨_,.bool b⟩
 | _,_,_,.int i,r=>by obtain⟨t,rfl⟩:=r;exact⟨_,.int i t⟩
 | _,_,_,.str x,r=>by obtain⟨t,rfl⟩:=r;exact⟨_,.str x t⟩
 | _, _, _, .lst hq hs, r => by
  cases r;obtain⟨its,rv,⟨o,n,ho,hc,_,hd⟩,_⟩:=I.list hq
  obtain⟨as,q⟩:=RdVs.reads I hs rv;exact⟨_,.list ho hc hd q⟩
 | _, _, _, .tup hq hs, r => by
  cases r;obtain⟨its,rv,⟨o,ho,hc,n,hd⟩,_⟩:=I.tuple hq
  obtain⟨as,q⟩:=RdVs.reads I hs rv;exact⟨_,.tuple ho hc hd q⟩
theorem RdVs.reads(I:#[13]):∀ {xs:List V} {ds:List PyData} {us:#[28]},RdVs X.K H xs ds->Vals xs us->∃ as,ReadsAll s.heap us ds as
 | _,_,_,.nil,.nil=>⟨_,.nil⟩
 | _, _, _, .cons h hs, .cons r t => by
  obtain⟨as,q⟩:=RdV.reads I h r;obtain⟨bs,p⟩:=RdVs.reads I hs t;exact⟨_,.cons q p⟩
end
end
section
variable{X:Cx}
def rEqD(K:Ybf):R2:=fun x y H Q=>∃ d e,RdV K H x d/\RdV K H y e/\SeqAt.shaped d=true/\SeqAt.shaped e=true/\Q (.bl (PyData.eqv d e)) H
def rNeD(K:Ybf):R2:=fun x y H Q=>∃ d e,RdV K H x d/\RdV K H y e/\SeqAt.shaped d=true/\SeqAt.shaped e=true/\Q (.bl (!PyData.eqv d e)) H
theorem zmx(hu:X.A.units+64<cLine):OpR X (compareOp .Eq) (rEqD X.K):=by
 intro pins s σ H x y v u Q I rx ry h;obtain⟨d,e,h1,h2,s1,s2,q⟩:=h;obtain⟨as,r1⟩:=h1.reads I rx;obtain⟨bs,r2⟩:=h2.reads I ry;exact eq_dataH r1 r2 s1 s2 hu ⟨.bl _,H,I,rfl,q⟩
theorem zja(hu:X.A.units+64<cLine):OpR X (compareOp .NotEq) (rNeD X.K):=by
 intro pins s σ H x y v u Q I rx ry h;obtain⟨d,e,h1,h2,s1,s2,q⟩:=h;obtain⟨as,r1⟩:=h1.reads I rx;obtain⟨bs,r2⟩:=h2.reads I ry;exact ne_dataH r1 r2 s1 s2 hu ⟨.bl _,H,I,rfl,q⟩
def Jn(_ j:Int):Prop:=0<j/\Bits 9000 j
theorem zjI:OpR X (binaryOp .FloorDiv) (rI Jn fun i j=>.int (i/j)):=opI fun i j _ _ _ _ _ hc q=>
 floordiv_int (by have:=hc.1;omega) (by rw [Int.fdiv_eq_ediv_of_nonneg i (by have:=hc.1;omega)];exact q) (.inl (PyProof.noPylong_of_log2 (hc.2.log2 #[1])))
end
def Df(P:Program)(w:World)(K:Ybf)(mg:#[15])(base:Heap)(k:Nat)(x:Str)(ps:List Str)(sp:Sp):Prop:=
 ∃ f fd,FnOk P w K mg base (CXR P w) k f fd ps sp/\Binds K fd ps []/\PySem.W.keepIn K (.ref f)=true/\mg x=some (.ref f)
section
variable{X:Cx}{k:Nat}{ps:List Str}{sp:Sp}{x:Str}{p pos pos':Pos}{e:Expr}{es:#[54]}{t:TA}{E:XK}
theorem ZW(G:Df X.prog X.w X.K X.mg X.base k x ps sp)(hr:Room k X.A)(hg:Gl X x)(hx:Passes (CXR X.prog X.w) X E)(ha:PA X (e::es) t)(hdb:#[21]:=by decide)
 (he:#[14]:=by rfl) (hpl:(backTo pos #[46]).any (·.1)=false:=by rfl):PE X #[30] (zde sp [] E t):=by
 obtain⟨f,fd,F,hb,hk,hm⟩:=G;exact zmv F hr hg hm hk hb .nil hx ha hdb he hpl
end
section
variable{X:Cx}{o e:Expr}{to:TE}{t:TA}{apos pos:Pos}
theorem zcZ(ho:PE X o to)(ha:PA X [e] t)(hb:attributeBase o "append" X.env (eval o X.env)=eval o X.env:=by rfl)
 (hf:((backTo pos (starEach [e] X.env)).all (fun x=>!x.1)&&(backToKw pos (keywordEach [] X.env)).all (fun x=>x.1.isSome)&&decide ([e].length+([]:List Keyword).length+(if([]:List Keyword).isEmpty then 0 else 1)<30))=true:=by rfl)
 (hl:(apos.endLine==pos.line)=true:=by rfl) (hs:starEach [e] X.env=(false,eval e X.env)::starEach [] X.env:=by rfl) (hp:(backTo pos #[65]).any (·.1)=false:=by rfl) :
 PE X (.Call (.Attribute o "append" apos) [e] [] pos) (tBM X.K "list" rAppend to t):=
 zeD PySem.F.plainAttrs_list PySem.F.slot_list_append PySem.F.type_list_append zgb ho ha hb hf hl hs hp
theorem zbi{K:Ybf}{H:Hp}{p:Addr}{xs:List V}(h:H p=some (.lst xs)):tyV K "list" (.ref p) H:=.inl ⟨rfl,_,SqL.of h⟩
end
section
variable{ta:TA}{tl:TE}{g:TG}{tb:TS}{D:Ends}{σ : St}{H:Hp}{K:Ybf}
end
theorem zT{H:Hp}{p:Addr}(h:H p=none)(o:HO):Same H (upd H p o):=fun b u q=>by rw [zj (zZ q h)];exact q
theorem Same.tup{K:Ybf}{H H':Hp}{a:Addr}{xs:List V}(e:Same H H')(h:SqT K H a xs):SqT K H' a xs:=by
 rcases h with (h|⟨o,h⟩)|h
 . exact .inl (.inl (e _ _ h))
 . exact .inl (.inr ⟨o,e _ _ h⟩)
 . exact .inr h
section
variable{X:Cx}
end
theorem atI0{α : Type}{x:α}{xs:List α}:atI (x::xs) 0=some x:=jt (j:=0) rfl
theorem atI1{α : Type}{x y:α}{xs:List α}:atI (x::y::xs) 1=some y:=jt (j:=1) rfl
end L2
section
open PySem PySem.Spec PyProof.Rows L2
namespace L2
end L2
namespace L2
theorem Bits.emod{k:Nat}{m:Int}(hm:Bits k m)(h0:0<m)(x:Int):Bits k (x%m):=hm.le (by
 have h1:=Ybc x (by omega:m≠0)
 have h2:=Ybd x h0
 omega)
theorem Bits.lit{x:Int}(k:Nat)(h:x.natAbs<2 ^ 64:=by decide)(hk:64<=k:=by decide):Bits k x:=Bits.mono (j:=64) h hk
theorem divP{i j:Int}(h0:0<j:=by decide)(h:j.natAbs<2 ^ 64:=by decide):Jn i j:=⟨h0,Bits.lit _ h #[1]⟩
theorem powB{i j:Int}{k:Nat}(h:Bits k i)(h0:0<=j)(hk:k*j.toNat<=134217728):Jz i j:=⟨h0,by
 have e1:=h.bits;have e2:(Builtin.Int.intBits i:Int)*j<=(k:Int)*j:=Ybe #[0] h0
 have e3:(k:Int)*j=((k*j.toNat:Nat):Int):=by rw [Int.natCast_mul];congr 1;omega
 omega⟩
end L2
end
namespace L2
open PySem PySem.Spec PyProof.Rows
def zfd(osc scope:Scope)(tn fn:List Str):Bool:=
 decide (scope.kind=.function)&&scope.names.all (fun x=>!decide (x.2=.local)||decide (scope.names.lookup x.1=some .local)) &&
 scope.names.all (fun x=>!decide (x.2=.cell)||decide (scope.names.lookup x.1=some .cell)) &&
 scope.names.all (fun x=>!decide (x.2=.free)||decide (osc.names.lookup x.1=some .cell)||decide (osc.names.lookup x.1=some .free)) &&
 tn.all (fun x=>decide (scope.names.lookup x=some .local)||decide (scope.names.lookup x=some .cell)) &&
 fn.all (fun x=>decide (scope.names.lookup x=some .free))&&decide ((tn++fn).Nodup)
structure CompSc(osc scope:Scope)(tn fn:List Str):Prop where
 kind:scope.kind=.function
 loc:∀ x∈scope.names,x.2=.local->scope.names.lookup x.1=some .local
 cell:∀ x∈scope.names,x.2=.cell->scope.names.lookup x.1=some .cell
 free:∀ x∈scope.names,x.2=.free->osc.names.lookup x.1=some .cell\/osc.names.lookup x.1=some .free
 frees:∀ x∈fn,scope.names.lookup x=some .free
 nd:(tn++fn).Nodup
theorem zQ{osc scope:Scope}{tn fn:List Str}(h:zfd osc scope tn fn=true):CompSc osc scope tn fn:=by
 unfold zfd at h;simp only [Yak,decide_eq_true_eq,Wa3,Bool.or_eq_true,WaM,decide_eq_false_iff_not] at h;obtain⟨⟨⟨⟨⟨⟨h1,h2⟩,h3⟩,h4⟩,h5⟩,h6⟩,h7⟩:=h;refine⟨h1,fun x hx e=>(h2 x hx).resolve_left (fun n=>n e),fun x hx e=>(h3 x hx).resolve_left (fun n=>n e),fun x hx e=>?_,h6,h7⟩
 rcases h4 x hx with (n|q)|q
 . exact absurd e n
 . exact .inl q
 . exact .inr q
theorem zc8(env:Env):∀ (names:List (Str×NameKind)) (x:Str),
 (names.map fun(n,k)=>if(k==NameKind.free&&env.scope.kind==.function&&env.kindOf n==some .cell) then(n,NameKind.cell) else(n,k)).lookup x =
  (names.lookup x).map fun k=>if(k==NameKind.free&&env.scope.kind==.function&&env.kindOf x==some .cell) then NameKind.cell else k
 | [],x=>rfl
 | (n, k) :: r, x => by
  have ih:=zc8 env r x;rw [Ya1]
  by_cases hx:x=n
  . subst hx
    show List.lookup x ((if(k==NameKind.free&&env.scope.kind==.function&&env.kindOf x==some .cell)=true then(x,NameKind.cell) else(x,k))::_)=_
    split
    . rename_i hc;rw [List.lookup_cons,List.lookup_cons];simp only [beq_self_eq_true,Option.map_some,if_pos hc]
    . rename_i hc;rw [List.lookup_cons,List.lookup_cons];simp only [beq_self_eq_true,Option.map_some,if_neg hc]
  . have hb:(x==n)=false:=beq_eq_false_iff_ne.mpr hx
    show List.lookup x ((if(k==NameKind.free&&env.scope.kind==.function&&env.kindOf n==some .cell)=true then(n,NameKind.cell) else(n,k))::_)=_
    split
    . simp only [List.lookup_cons,hb];exact ih
    . simp only [List.lookup_cons,hb];exact ih
theorem zdS{scope:Scope}{env:Env}{x:Str}{k:NameKind}(h:(relabel scope env).names.lookup x=some k):∃ k',scope.names.lookup x=some k'/\(k'=k\/(k'=.free/\k=.cell)):=by
 have e:=zc8 env scope.names x;have h':(scope.names.map fun(n,k)=>if(k==NameKind.free&&env.scope.kind==.function&&env.kindOf n==some .cell) then(n,NameKind.cell) else(n,k)).lookup x=some k:=h
 rw [h'] at e;cases q:scope.names.lookup x with
 | none=>rw [q] at e;cases e
 | some k'=>
  rw [q] at e;have e':=Wba e;refine⟨k',rfl,?_⟩;dsimp only at e'
  split at e'
  . rename_i hc
    simp only [Yak,beq_iff_eq] at hc;exact .inr ⟨hc.1.1,e'⟩
  . exact .inl e'.symm
theorem zm6{scope:Scope}{env:Env}{x:Str}(h:scope.names.lookup x=some .free):(relabel scope env).names.lookup x=some .cell\/(relabel scope env).names.lookup x=some .free:=by
 have e:=zc8 env scope.names x;rw [h] at e;have e':(relabel scope env).names.lookup x=some _:=e;rw [e']
 by_cases c:(NameKind.free==NameKind.free&&env.scope.kind==.function&&env.kindOf x==some .cell)=true
 . left;simp only [WaN];rw [if_pos c]
 . right;simp only [WaN];rw [if_neg c]
theorem Jv:∀ (names:List (Str×NameKind)) (n:Nat) (acc:List (Str×Addr)),cellsFrom n names acc=cellsFrom n names []++acc
 | [],_,acc=>rfl
 | (x, k) :: r, n, acc => by
  unfold cellsFrom
  split
  . rw [Jv r (n+1) ((x,n)::acc),Jv r (n+1) [(x,n)],Yag];rfl
  . exact Jv r n acc
theorem zc5:∀ (names:List (Str×NameKind)) (n:Nat) (x:Str) (c:Addr),(x,c)∈cellsFrom n names []->(x,NameKind.cell)∈names
 | [],_,_,_,h=>by cases h
 | (y, k) :: r, n, x, c, h => by
  unfold cellsFrom at h
  split at h
  . rename_i hk
    rw [Jv] at h
    rcases Ya3.mp h with q|q
    . exact YaT _ (zc5 r _ x c q)
    . cases Ya6.mp q
      have:k=.cell:=by simpa using hk
      subst this;exact YaV
  . exact YaT _ (zc5 r _ x c h)
theorem zg8{env:Env}{scope:Scope}(h:∀ x∈scope.names,x.2=.free->∃ c,env.cells.lookup x.1=some c) :
 ∃ cl,closureFor scope env=pure cl/\(∀ x c,cl.lookup x=some c->env.cells.lookup x=some c)/\∀ x,(x,NameKind.free)∈scope.names->∃ c,cl.lookup x=some c:=by
 have key:∀ (f:Str×NameKind->List (Str×Addr)->Sem (ForInStep (List (Str×Addr)))),(∀ n k cs,f (n,k) cs=if k==.free then(do let a <-cellOf env n;pure (ForInStep.yield ((n,a)::cs))) else pure (ForInStep.yield cs))->
  ∀ (names:List (Str×NameKind)) (acc:List (Str×Addr)),(∀ x∈names,x.2=.free->∃ c,env.cells.lookup x.1=some c)->(∀ x c,acc.lookup x=some c->env.cells.lookup x=some c)->
  ∃ cl,(forIn names acc f:Sem (List (Str×Addr)))=pure cl/\(∀ x c,cl.lookup x=some c->env.cells.lookup x=some c)/\
   (∀ x,(x,NameKind.free)∈names->∃ c,cl.lookup x=some c)/\∀ x,(∃ c,acc.lookup x=some c)->∃ c,cl.lookup x=some c:=by
  intro f hf names
  induction names with
  | nil=>intro acc _ ha;exact⟨acc,rfl,ha,fun x hx=>(by cases hx),fun x q=>q⟩
  | cons y r ih=>
   intro acc hn ha;obtain⟨n,k⟩:=y
   by_cases hk:k=.free
   . subst hk
     obtain⟨c,hc⟩:=hn (n,.free) YaV rfl;have hc':env.cells.lookup n=some c:=hc;obtain⟨cl,e1,e2,e3,e4⟩:=ih ((n,c)::acc) (fun x hx=>hn x (YaT _ hx)) (fun x c' q=>by
      rw [List.lookup_cons] at q
      by_cases hx:x=n
      . subst hx;simp at q;subst q;exact hc'
      . rw [beq_eq_false_iff_ne.mpr hx] at q;exact ha x c' q)
     refine⟨cl,?_,e2,fun x hx=>?_,fun x q=>e4 x ?_⟩
     . rw [List.forIn_cons,hf]
       have ec:cellOf env n=pure c:=by unfold cellOf;rw [hc']
       simp only [beq_self_eq_true,if_true,ec];exact e1
     . rcases Wbm.mp hx with e|e
       . cases e;exact e4 n ⟨c,by simp [List.lookup_cons]⟩
       . exact e3 x e
     . obtain⟨c',q⟩:=q
       by_cases hx:x=n
       . subst hx;exact⟨c,by simp [List.lookup_cons]⟩
       . exact⟨c',by rw [List.lookup_cons,beq_eq_false_iff_ne.mpr hx];exact q⟩
   . obtain⟨cl,e1,e2,e3,e4⟩:=ih acc (fun x hx=>hn x (YaT _ hx)) ha
     refine⟨cl,?_,e2,fun x hx=>?_,e4⟩
     . rw [List.forIn_cons,hf]
       have:(k==NameKind.free)=false:=by simpa using hk
       simp only [this,WaH,if_false];exact e1
     . rcases Wbm.mp hx with e|e
       . cases e;exact absurd rfl hk
       . exact e3 x e
 unfold closureFor;obtain⟨cl,e1,e2,e3,_⟩:=key (fun x r=>match x with|(name,kind)=>if kind==.free then(do let a <-cellOf env name;pure (ForInStep.yield ((name,a)::r))) else pure (ForInStep.yield r)) (fun _ _ _=>rfl) scope.names [] h (fun x c q=>by cases q)
 refine⟨cl,?_,e2,e3⟩
 have e:∀ (x:Sem (List (Str×Addr))),x=pure cl->(x >>= fun r=>pure r)=pure cl:=fun x q=>by rw [q];rfl
 exact e _ e1
def zns(scope:Scope)(C:Addr)(cells:List (Str×Addr))(env:Env):Env:=
 { scope:=relabel scope env,locals:=C,globals:=env.globals,cells:=cells,qual:=env.qual,func:=none,code:=env.code,frame:=env.frame,builtins:=env.builtins }
def Cx.comp(X:Cx)(scope:Scope)(N:List Str)(s:Shared)(H:Hp)(fp:#[55])(cl:List (Str×Addr)):Cx where
 prog:=X.prog
 w:=X.w
 K:=X.K
 mg:=X.mg
 base:=X.base
 A:=X.A
 N:=N
 s₀:=s
 H₀:=H
 env:=zns scope s.heap.objs.size (cellsFrom #[32] scope.names cl) X.env
 outer:=X.stack
 stack:=X.stack
 ex:=fp
 fn:=fun x=>decide (scope.names.lookup x=some .cell)
 calm:=X.calm
 pn:=[]
 xe:=fun _ _=>False
def cst(n:Nat)(js:List Nat)(σ : St):St:=List.replicate n none++js.map fun j=>(σ[j]?).join
theorem zg3{X:Cx}{pins:List #[17]}{σ : St}{H:Hp}{s:Shared}{scope:Scope}{tn fn:List Str}{js:List Nat}{fp:#[55]}{cl:List (Str×Addr)}(I:#[13])(S:CompSc X.env.scope scope tn fn)
 (hj:js.map (fun j=>X.N[j]?)=fn.map some) (hfp:∀ b∈fp,FpOk X pins H b) (hlt:∀ b∈fp,b<s.heap.objs.size)
 (hcl:∀ x c,cl.lookup x=some c->X.env.cells.lookup x=some c) (hcl2:∀ x,(x,NameKind.free)∈scope.names->∃ c,cl.lookup x=some c) :
 Inv #[16] [] (cst tn.length js σ) H { s with heap:=pushCells (s.heap.push { cls:=.type "dict", data:=.dict #[] }) scope.names }:=by
 have hC:=cellsFrom_ok scope.names (s.heap.push { cls:=.type "dict", data:=.dict #[] }) #[32] [] ⟨fun _ _ hm=>(nomatch hm),List.Pairwise.nil⟩ (by rw [Wbj];exact YaY _)
 rw [Wbj] at hC;have keep:∀ b o,s.heap.get? b=some o->(pushCells (s.heap.push { cls:=.type "dict", data:=.dict #[] }) scope.names).get? b=some o:=fun b o e=>pushCells_keeps _ _ b o (YaW _ e)
 have look:∀ x c,(cellsFrom #[32] scope.names cl).lookup x=some c->((x,c)∈cellsFrom #[32] scope.names [])\/X.env.cells.lookup x=some c:=fun x c e=>by
  rw [Jv,List.lookup_append] at e;cases q:(cellsFrom #[32] scope.names []).lookup x with
  | some c'=>rw [q] at e;cases e;exact .inl (WaE q)
  | none=>rw [q] at e;exact .inr (hcl x c e)
 have outerLt:∀ x c,X.env.cells.lookup x=some c->c<s.heap.objs.size:=fun x c e=>by
  obtain⟨v,q⟩:=I.cell x c e;exact q.lt
 have ownGe:∀ x c,(x,c)∈cellsFrom #[32] scope.names []->s.heap.objs.size+1<=c:=fun x c e=>(hC.empty x c e).2
 refine⟨⟨I.ok.mod,S.kind,I.ok.glob,I.ok.blt,YaY _,fun x y c h1 h2=>?_,fun x hx=>?_,fun x c h1 h2=>?_,I.ok.hd,I.ok.frames,.inl rfl,fun b hb=>⟨Yaf (hlt b hb),fun x c e=>?_⟩,fun b o e=>I.bs b o e,Ya5 I.ok.bsz I.sz,fun b o e hb=>?_,fun b hb hz=>?_,I.stack,I.stkFree⟩,
  rfl,I.bare,Un.kept keep,⟨fun _=>none,?_,fun i x v h1 h2 h3=>?_⟩,fun x c e=>?_,I.hok.fresh (YaY _),fun x c e=>?_,fun p hp=>?_,I.hok.kept keep,?_⟩
 . rcases look x c h1 with q|q<;>rcases look y c h2 with r|r
   . exact name_of_addr hC.apart q r
   . exact absurd (Wbz (outerLt y c r) (ownGe x c q)) (Yap _)
   . exact absurd (Wbz (outerLt x c q) (ownGe y c r)) (Yap _)
   . exact I.ok.inj x y c q r
 . have own:∀ k,scope.names.lookup x=some k->k=.cell\/k=.free->∃ c,(cellsFrom #[32] scope.names cl).lookup x=some c:=fun k hk hkk=>by
    refine Wam.mp (War _ _ _ ?_)
    rcases hkk with rfl|rfl
    . exact .inl hk
    . obtain⟨c,q⟩:=hcl2 x (WaE hk)
      exact .inr (by rw [q];rfl)
   rcases hx with hx|hx
   . obtain⟨k',e,q|q⟩:=zdS (scope:=scope) (env:=X.env) hx
     . subst q;exact own _ e #[70]
     . exact own _ e (.inr q.1)
   . obtain⟨k',e,q|q⟩:=zdS (scope:=scope) (env:=X.env) hx
     . subst q;exact own _ e (.inr rfl)
     . cases q.2
 . have hc:scope.names.lookup x=some .cell:=of_decide_eq_true h1
   rcases look x c h2 with q|q
   . exact Wbw (ownGe x c q)
   . exfalso
     have h2':(cellsFrom #[32] scope.names cl).lookup x=some c:=h2;rw [Jv,List.lookup_append] at h2';obtain⟨c',q'⟩:=Wam.mp (War scope.names #[32] [] (.inl hc));rw [q'] at h2';cases h2';exact absurd (Wbz (outerLt x c q) (ownGe x c (WaE q'))) (Yap _)
 . rcases look x c e with q|q
   . intro z;subst z
     exact absurd (Wbz (hlt c hb) (ownGe x c q)) (Yap _)
   . exact(hfp b hb).2.2.2.2.1 x c q
 . rcases(hfp b hb).2.2.2.1 with z|z
   . exact I.ok.noex b o e z
   . exact absurd (YaU (YaX (I.ok.bs b o e).1) z) (Yap _)
 . rcases Wbm.mp (I.stkSub b hz) with z|z
   . exact(hfp b hb).2.1 z
   . exact(hfp b hb).2.2.1 z
 . exact(Heap.Ns.new s.heap (.type "dict")).keeps (pushCells_keeps _ _)
 . unfold cst at h2
   by_cases hi:i<tn.length
   . rw [Yab (by simpa using hi),Yad,if_pos hi] at h2
     cases h2
   . rw [Yae (by simpa using hi),Ybb,Ya0] at h2
     cases ej:js[i - tn.length]? with
     | none=>rw [ej] at h2;cases h2
     | some j=>
      rw [ej] at h2;have h2':(σ[j]?).join=some v:=Wba h2;have hσ : σ[j]?=some (some v):=by
       cases q:σ[j]? with
       | none=>rw [q] at h2';cases h2'
       | some o => rw [q] at h2'; cases o with
        | none=>cases h2'
        | some v'=>cases h2';rfl
      have h1':(tn++fn)[i]?=some x:=h1;rw [Yae #[0]] at h1'
      have hN:X.N[j]?=some x:=by
       have e:=congrArg (fun l=>l[i - tn.length]?) hj
       simp only [Ya0,ej,h1',Option.map_some] at e;exact Wba e
      have hfx:scope.names.lookup x=some .free:=S.frees x (Yah h1');obtain⟨m,hn,hl⟩:=I.loc;have ok:X.env.scope.names.lookup x=some .cell\/X.env.scope.names.lookup x=some .free:=S.free (x,.free) (WaE hfx) rfl;obtain⟨u,r,l⟩:=hl j x v hN hσ (by rcases ok with z|z;exact .inr (.inl z);exact .inr (.inr z))
      refine⟨u,r,.inr ⟨zm6 hfx,?_⟩⟩
      rcases l with ⟨k,_⟩|⟨_,c,ec,q⟩
      . have k':X.env.scope.names.lookup x=some .local:=k
        rcases ok with z|z<;>rw [z] at k'<;>cases k'
      . refine⟨c,?_,q.keeps keep⟩
        show(cellsFrom #[32] scope.names cl).lookup x=some c
        rw [Jv,List.lookup_append];have e1:(cellsFrom #[32] scope.names []).lookup x=none:=by
         cases q1:(cellsFrom #[32] scope.names []).lookup x with
         | none=>rfl
         | some c1=>
          have e2:=S.cell (x,.cell) (zc5 _ _ _ _ (WaE q1)) rfl;have e2':scope.names.lookup x=some .cell:=e2;rw [hfx] at e2';cases e2'
        obtain⟨c2,q2⟩:=hcl2 x (WaE hfx);have:=hcl x c2 q2;rw [ec] at this;cases this;rw [e1,q2];rfl
 . rcases look x c e with q|q
   . exact⟨_,(hC.empty x c q).1⟩
   . obtain⟨v,z⟩:=I.cell x c q
     exact⟨v,z.keeps keep⟩
 . rcases look x c e with q|q
   . exact I.hok.fresh (Wbw (ownGe x c q))
   . exact I.freeC x c q
 . exact absurd (show p∈([]:List #[17]) from hp) (by simp)
 . unfold cst
   show _=(tn++fn).length
   have:js.length=fn.length:=by have:=congrArg List.length hj;simpa using this
   rw [YaS,Ybb,YaR,YaS,this]
section
variable{X:Cx}{pins:List #[17]}{σ : L2.St}{H:Hp}{s:Shared}{h':Heap}
theorem Inv.turnedL{t':Nat}{ch:#[55]}(I:#[13])(k:∀ b o,b∉ch->s.heap.get? b=some o->h'.get? b=some o)(hf:∀ b∈ch,FpOk X pins H b):Inv X pins σ H { s with heap:=h',toks:=t' }:=by
 have nit:∀ b u,H b=some u->b∉ch:=fun b u e z=>by have:=(hf b z).1;rw [e] at this;cases this
 refine I.step (g':=s.gens) (d':=s.drawn) (ch:=ch) (fun b hb=>⟨(hf b hb).2.2.2.1,(hf b hb).2.1,(hf b hb).2.2.2.2.1,(hf b hb).2.2.2.2.2⟩) (fun b o _ _ hc e _=>k b o hc e) (fun b o _ _ hc e _=>⟨o.slots,k b o hc e⟩) (fun _ _ _ _ n=>n)
  (fun b o hc e=>⟨o,k b o hc e⟩) (fun _ _ e=>e) (fun _ _ _ e=>e) (fun b ps e=>⟨#[],by rw [e];simp⟩) (fun m hm=>?_) (fun b u e=>?_) I.bare
 . obtain⟨o,es,ep,ho,r⟩:=hm
   exact⟨o,es,ep,k _ o (fun z=>(hf _ z).2.1 rfl) ho,r⟩
 . refine(I.hok b u e).stay (fun c v hc q=>k c v ?_ q) (fun _ q=>q) fun _ _ q=>q
   rcases hc with z|z
   . rw [z];exact nit b u e
   . exact nit c _ z
theorem Inv.track{a:Addr}{o:HO}(I:#[13])(hn:H a=none)(h0:X.s₀.heap.objs.size<=a)(hL:a≠X.env.locals)(hc:∀ x c,X.env.cells.lookup x=some c->c≠a)(hp:∀ p∈X.pn++pins,p.1≠a)(new:zK X.prog X.w (upd H a o) s.heap a o):Inv X pins σ (upd H a o) s:=by
 have no0:∀ b ob,X.s₀.heap.get? b=some ob->b≠a:=fun b ob e=>Yaf (YaU (YaX e) h0)
 refine⟨I.ok,I.os,I.bare,⟨I.base.keep,I.base.slot,fun b ob q n hx=>?_,I.base.there,fun b xs q=>?_,fun b ob u q=>?_,fun b ps q=>?_⟩,I.loc,I.cell,?_,fun x c e=>?_,fun p h=>?_,I.hok.track hn new,I.len⟩
 . rw [zj (no0 b ob q)];exact I.base.free b ob q n hx
 . have e:=I.base.tups b xs q;rw [zj (zZ e hn)];exact e
 . have e:=I.base.frzs b ob u q;rw [zj (zZ e hn)];exact e
 . obtain⟨m,e⟩:=I.base.tbls b ps q;exact⟨m,by rw [zj (zZ e hn)];exact e⟩
 . rw [zj (WbM hL)];exact I.free
 . rw [zj (hc x c e)];exact I.freeC x c e
 . obtain⟨q1,q2,q3⟩:=I.pin p h
   exact⟨q1,by rw [zj (hp p h)];exact q2,q3⟩
end
def tTrue:TT:=fun _ H Q=>Q true H
def zaS(wi:TI)(g:TG)(tt:TT)(te:TE)(n:Nat)(js:List Nat):TE:=fun σ H Q=>wi σ H fun J H1=>∀ D,H1 D=none->∃ W:Nat->Nat->List V->St->Hp->Prop,(∃ m,W 0 m [] (cst n js σ) (upd H1 D (.lst [])))/\∀ i m ys σ1 H2,W i m ys σ1 H2->
 (J.stop i H2/\Q (.ref D) H2)\/(J.go i H2/\∀ x H3,J.yld i H2 x H3->g x σ1 H3 fun σ4 H4=>tt σ4 H4 fun b H5=>if b=true then te σ4 H5 fun y H6=>H6 D=some (.lst ys)/\ys.length<sizeLine/\∃ m',m'<m/\W (i+1) m' (ys++[y]) σ4 (upd H6 D (.lst (ys++[y]))) else ∃ m',m'<m/\W (i+1) m' ys σ4 H5)
def PTs(X:Cx)(ifs:#[54])(t:TT):Prop:=
 ∀ (pins:List #[17]) (s:Shared) (σ : St) (H:Hp) (Q:Bool->Hp->Prop),Inv X pins σ H s->t σ H Q->
  wpAny #[12] X.A (forIn ifs true fun c r=>if r=true then do let ok <-isTrue c X.env (eval c X.env);pure (ForInStep.yield ok) else pure (ForInStep.yield r)) (TP X pins σ Q) X.xe s
theorem zdB{X:Cx}:PTs X [] tTrue:=fun _ _ _ H _ I h=>wpAny_tests_nil ⟨H,I,h⟩
theorem zlN{X:Cx}{c:Expr}{t:TT}(h:PT X c t):PTs X [c] t:=fun pins s σ H Q I q=>wpAny_tests_one (h pins s σ H Q I q)
theorem zdX{X:Cx}{elt tg iter:Expr}{ifs:#[54]}{scope:Scope}{pos pos':Pos}{wi:TI}{g:TG}{tt:TT}{te:TE}{use:Option (Value->Sem Unit)}{Qc:#[11]}(tn fn:List Str)(js:List Nat)(hcalm:X.calm=true)(S:CompSc X.env.scope scope tn fn)(hj:js.map (fun j=>X.N[j]?)=fn.map some)(hi:PI X tg iter wi)
 (hb:∀ s H fp cl,PG #[16] tg g/\PTs #[16] ifs tt/\PE #[16] elt te)
 (hs:∀ x,foldedSetIterable iter X.env x=pure x) {pins:List #[17]} {s:Shared} {σ : L2.St} {H:Hp} {Q:VK} (I:#[13]) (h:zaS wi g tt te tn.length js σ H Q)
 (fin:∀ (D C:Addr) (s6:Shared) (H5:Hp) (m6:#[15]),s6.heap.Ns C m6->FpOk X pins H5 C->Inv X pins σ H5 s6->Q (.ref D) H5->compPost #[12] X.A X.xe use Qc (.ref D) C (.ok .next) s6) :
 wpAny #[12] X.A (comprehension (.ListComp elt [⟨tg,iter,ifs,0⟩] scope pos) scope X.env pos' (newList []) false (eval iter X.env) use) Qc X.xe s:=by
 obtain⟨cl,hclos,hcl,hcl2⟩:=zg8 (env:=X.env) (scope:=scope) (fun x hx e=>I.ok.has x.1 (S.free x hx e))
 refine wpAny_comprehension_free (use:=use) rfl hs hclos S.kind S.loc (thn (hi pins s σ H _ I h) fun v s1 h1=>thn h1 fun itv s2 h2=>?_)
 obtain⟨it,fp,tn',J,H2,e,I2,T,st2,f2,k⟩:=h2;subst e;have hD:H2 s2.heap.objs.size=none:=I2.fresh;obtain⟨W,⟨m0,w0⟩,turn⟩:=k _ hD;refine wpAny_newObj_type ?_;have I3:Inv X pins σ (upd H2 s2.heap.objs.size (.lst [])) { s2 with heap:=s2.heap.push { cls:=.type "list", data:=.seq ([]:List Value).toArray } }:=I2.lnew (t':=s2.toks) (ys:=[]) (its:=[]) .nil (WbF _)
 generalize hs3:({ s2 with heap:=s2.heap.push { cls:=.type "list", data:=.seq ([]:List Value).toArray } }:Shared)=s3 at I3
 have hs3':s3.heap.objs.size=s2.heap.objs.size+1:=by rw [<-hs3];exact Wbj ..
 have up3:∀ b o,s2.heap.get? b=some o->s3.heap.get? b=some o:=fun b o e=>by rw [<-hs3];exact YaW _ e
 have flt:∀ b∈fp,b<s2.heap.objs.size:=fun b hb=>by
  obtain⟨o,e,_⟩:=T.obj _ _ st2 b hb;exact YaX e
 generalize hDn:s2.heap.objs.size=D at *;have f3:∀ b∈fp,FpOk X pins (upd H2 D (.lst [])) b:=fun b hb=>⟨by rw [zj (Yaf (flt b hb))];exact(f2 b hb).1,(f2 b hb).2⟩
 have flt3:∀ b∈fp,b<s3.heap.objs.size:=fun b hb=>by rw [hs3'];exact WaO (flt b hb)
 have I4:=zg3 I3 S hj f3 flt3 hcl hcl2;have st4:tn' 0 (pushCells (s3.heap.push { cls:=.type "dict", data:=.dict #[] }) scope.names):=T.keep _ _ _ st2 fun b _ o e=>pushCells_keeps _ _ b o (YaW _ (up3 b o e))
 obtain⟨pg,pt,pe⟩:=hb s3 (upd H2 D (.lst [])) fp cl;generalize hX:X.comp scope (tn++fn) s3 (upd H2 D (.lst [])) fp cl=Y at I4 pg pt pe;have Yp:Y.prog=X.prog:=by rw [<-hX];rfl
 have Yw:Y.w=X.w:=by rw [<-hX];rfl
 have YK:Y.K=X.K:=by rw [<-hX];rfl
 have YA:Y.A=X.A:=by rw [<-hX];rfl
 have Yc:Y.calm=true:=by rw [<-hX];exact hcalm
 have Yxe:Y.xe=fun _ _=>False:=by rw [<-hX];rfl
 have Yex:Y.ex=fp:=by rw [<-hX];rfl
 have Yfs:Y.fs=frs X.stack:=by rw [<-hX];rfl
 have Ypn:Y.pn=[]:=by rw [<-hX];rfl
 have Ys:Y.s₀ = s3:=by rw [<-hX];rfl
 have YH:Y.H₀ = upd H2 D (.lst []):=by rw [<-hX];rfl
 have YC:Y.env.locals=s3.heap.objs.size:=by rw [<-hX];rfl
 have Yenv:({ scope:=relabel scope X.env,locals:=s3.heap.objs.size,globals:=X.env.globals,cells:=cellsFrom (s3.heap.objs.size+1) scope.names cl,qual:=X.env.qual,func:=none,code:=X.env.code,frame:=X.env.frame,builtins:=X.env.builtins }:Env)=Y.env:=by rw [<-hX];rfl
 have stat:∀ {H':Hp},(∀ b∈fp,H' b=none)->∀ b∈fp,FpOk Y [] H' b:=fun hn b hb=>by
  refine⟨hn b hb,?_,?_,.inl (by rw [Yex];exact hb),fun x c e=>(I4.ok.exf b (by rw [Yex];exact hb)).2 x c e,fun p hp=>?_⟩
  . rw [YC];exact Yaf (flt3 b hb)
  . exact I4.ok.exfs b (by rw [Yex];exact hb)
  . rw [Ypn] at hp;exact absurd (show p∈([]:List #[17]) from hp) (by simp)
 have loop:codeAny #[12] X.A (.compLoop (.ListComp elt [⟨tg,iter,ifs,0⟩] scope pos) 0 (.ref it) (.ref D) Y.env) (compPost #[12] X.A X.xe use Qc (.ref D) s3.heap.objs.size)
  { s3 with heap:=pushCells (s3.heap.push { cls:=.type "dict", data:=.dict #[] }) scope.names }:=by
  refine codeAny_loop rfl (fun n s'=>∃ i ys σ' H',Inv Y [] σ' H' s'/\tn' i s'.heap/\(∀ b∈fp,H' b=none)/\W i n ys σ' H') (fun n s5 hI=>?_) m0 ⟨0,[],_,_,I4,st4,fun b hb=>(f3 b hb).1,w0⟩
  obtain⟨i,ys,σ5,H5,I5,st5,fr5,w5⟩:=hI;show wpAny _ X.A ((compTurn (.ListComp elt [⟨tg,iter,ifs,0⟩] scope pos) 0 (.ref it) (.ref D) Y.env).onRaise (fun x=>do noteFrame x Y.env;theTreesLotGoes x)) _ _ s5
  refine wpAny_noted ?_
  rw [compTurn_list];refine wpAny_bind (wpAny_standAt (wpAny_bind ?_))
  rcases turn i n ys σ5 H5 w5 with ⟨stop,qn⟩|⟨go,step⟩
  . have d:=T.done Y Yp Yw YK Yc i [] s5 σ5 H5 (fun _ _=>False) I5 (stat fr5) st5 stop
    rw [YA] at d;refine wpAny_mono d (fun r s6 ⟨hr,I6⟩=>?_) fun _ _ z=>z.elim
    subst hr;refine wpAny_pure ?_;obtain⟨m6,ns6,_⟩:=I6.loc;rw [YC] at ns6;have hC:H5 s3.heap.objs.size=none:=by have:=I6.free;rwa [YC] at this
    have u6:=I6.base;rw [Yfs,Yex,YH,Ys] at u6;have os6:=I6.os;rw [Ys] at os6;have hok6:=I6.hok;rw [Yp,Yw] at hok6;have IX:Inv X pins σ H5 s6:=I3.call' (s':=s6) os6 u6 hok6 I6.bare (fun b hb=>⟨(f3 b hb).2.2.2.1,(f3 b hb).2.1,(f3 b hb).2.2.2.2.1,(f3 b hb).2.2.2.2.2⟩)
    exact fin D s3.heap.objs.size s6 H5 m6 ns6 (I3.fpOk (H':=H5) (YaY _) hC) IX qn
  . have d:=T.item Y Yp Yw YK Yc i [] s5 σ5 H5 (fun _ _=>False) I5 (stat fr5) st5 go
    rw [YA] at d;refine wpAny_mono d (fun r s6 ⟨u,hr,h6⟩=>?_) fun _ _ z=>z.elim
    subst hr;refine wpAny_bind (wpAny_mono h6 (fun _ s7 ⟨x,H7,I7,r7,y7,st7,fr7⟩=>?_) fun _ _ z=>z.elim)
    have I7':=I7.pinned (stat fr7) (T.obj _ _ st7);have a8:=pg _ s7 σ5 H7 x u _ I7' r7 (step x H7 y7);rw [YA,Yp,Yw,Yxe] at a8;refine wpAny_bind (wpAny_mono a8 (fun _ s8 ⟨σ8,H8,I8,q8⟩=>?_) fun _ _ z=>z.elim)
    have a9:=pt _ s8 σ8 H8 _ I8 q8;rw [YA,Yp,Yw,Yxe] at a9;have again:∀ {H':Hp} {s':Shared} {ys':List V} {m':Nat},m'<n->Inv Y ([]++Zl fp s7.heap) σ8 H' s'->W (i+1) m' ys' σ8 H'->∃ m,m<n/\∃ i ys σ' H',Inv Y [] σ' H' s'/\tn' i s'.heap/\(∀ b∈fp,H' b=none)/\W i m ys σ' H':=fun {H' s' ys' m'} hm I' w'=>by
     refine⟨m',hm,i+1,ys',σ8,H',I'.unpinned,T.keep _ _ _ st7 fun b hb o e=>(I'.pin (b,o) (Yaa _ (Yaa _ (zaT hb e)))).1,fun b hb=>?_,w'⟩
     obtain⟨o,e,d⟩:=T.obj _ _ st7 b hb;exact(I'.pin (b,o) (Yaa _ (Yaa _ (zaT hb e)))).2.1
    refine wpAny_bind (wpAny_mono a9 (fun ok s9 ⟨H9,I9,q9⟩=>?_) fun _ _ z=>z.elim)
    cases ok with
    | false=>
     obtain⟨m',hm,w9⟩:=q9;exact wpAny_pure ⟨rfl,again hm I9 w9⟩
    | true=>
     have a10:=pe _ s9 σ8 H9 _ I9 q9;rw [YA,Yp,Yw,Yxe] at a10;refine wpAny_bind (wpAny_bind (wpAny_mono a10 (fun y10 s10 ⟨y,H10,I10,r10,e10,hz,m',hm,w10⟩=>?_) fun _ _ z=>z.elim))
     have a11:=zgb (X:=Y) _ s10 σ8 H10 (.ref D) [y] (.ref D) [y10] (fun _ H'=>H'=upd H10 D (.lst (ys++[y]))) I10 rfl (.cons r10 .nil) ⟨D,ys,y,rfl,rfl,e10,hz,rfl⟩
     rw [YA,Yp,Yw,Yxe] at a11;refine wpAny_bind (wpAny_mono a11 (fun _ s11 ⟨_,H11,I11,_,e11⟩=>?_) fun _ _ z=>z.elim)
     subst e11;exact wpAny_pure (wpAny_pure ⟨rfl,again hm I11 w10⟩)
 have env4:wpAny #[12] X.A (newFunctionEnv scope X.env.globals cl [] X.env.qual none .none (some X.env)) (fun cenv s₄=>
  codeAny #[12] X.A (.compStart (.ListComp elt [⟨tg,iter,ifs,0⟩] scope pos) 0 (.ref it) (.ref D) { cenv with scope:=relabel scope X.env }) (compPost #[12] X.A X.xe use Qc (.ref D) cenv.locals) s₄) X.xe s3:=by
  simp only [newFunctionEnv,Option.isSome_some,if_true];refine wpAny_bind (wpAny_alloc ?_);refine wpAny_bind (wpAny_layCells _ (fun name kind cells=>by cases hkc:kind==NameKind.cell<;>simp [hkc]) _ _ _ _ ?_)
  rw [List.forIn_nil];refine wpAny_bind (wpAny_pure (wpAny_pure ?_));rw [show({ s3 with heap:=s3.heap.push { cls:=.type "dict", data:=.dict #[] } }:Shared).heap.objs.size=s3.heap.objs.size+1 from Wbj ..]
  dsimp only;rw [Yenv];exact codeAny_compStart_list loop (T.self _ 0 _ _ _ st4 loop)
 exact env4
theorem zib{X:Cx}{elt tg iter:Expr}{ifs:#[54]}{scope:Scope}{pos:Pos}{wi:TI}{g:TG}{tt:TT}{te:TE}(tn fn:List Str)(js:List Nat)(hcalm:X.calm=true)(S:CompSc X.env.scope scope tn fn)(hj:js.map (fun j=>X.N[j]?)=fn.map some)(hi:PI X tg iter wi)
 (hb:∀ s H fp cl,PG #[16] tg g/\PTs #[16] ifs tt/\PE #[16] elt te)
 (hs:∀ x,foldedSetIterable iter X.env x=pure x:=by intro _;rfl) :
 PE X (.ListComp elt [⟨tg,iter,ifs,0⟩] scope pos) (zaS wi g tt te tn.length js):=by
 intro pins s σ H Q I h;rw [eval_ListComp];refine zdX (use:=none) tn fn js hcalm S hj hi hb hs I h fun D C s6 H5 m6 ns6 hC I6 q=>⟨m6,ns6,fun h' sb=>⟨.ref D,H5,?_,rfl,q⟩⟩
 exact I6.turnedL (t':=s6.toks) (ch:=[C]) (fun b o hb e=>sb.extBut b o (by simpa using hb) e) fun b hb=>by
  have e:b=C:=by simpa using hb
  subst e;exact hC
theorem zcb{X:Cx}{elt tg iter:Expr}{ifs:#[54]}{scope:Scope}{pos spos pos':Pos}{wi:TI}{g:TG}{tt:TT}{te:TE}{i:Nat}{x:Str}(hN:X.N.Nodup)(hix:X.N[i]?=some x)(hx:#[60])(tn fn:List Str)(js:List Nat)(hcalm:X.calm=true)(S:CompSc X.env.scope scope tn fn)(hj:js.map (fun j=>X.N[j]?)=fn.map some)(hi:PI X tg iter wi)
 (hb:∀ s H fp cl,PG #[16] tg g/\PTs #[16] ifs tt/\PE #[16] elt te)
 (hs:∀ x,foldedSetIterable iter X.env x=pure x:=by intro _;rfl)
 (hsw:swapsWith (.ListComp elt [⟨tg,iter,ifs,0⟩] scope pos) (some (.Name x pos')) spos.line X.env=pure true:=by rfl) (hf:#[20]:=by first|exact .inl rfl|exact .inr rfl|assumption) :
 PS X (.Assign [.Name x pos'] (.ListComp elt [⟨tg,iter,ifs,0⟩] scope pos) spos) (tAsg (zaS wi g tt te tn.length js) (zaQ i)):=by
 intro pins s σ H D I h;rw [exec_Assign_Name_used _ _ _ _ hsw];refine wpAny_bind (wpAny_standAt (wpAny_bind ?_));show wpAny _ X.A (do let _ <-comprehension (.ListComp elt [⟨tg,iter,ifs,0⟩] scope pos) scope X.env _ (newList []) false (eval iter X.env) (some (assign (.Name x pos') X.env))) _ _ s
 refine wpAny_bind (wpAny_mono (zdX (use:=some (assign (.Name x pos') X.env)) (Qc:=fun _ s'=>SP X pins D .next s') tn fn js hcalm S hj hi hb hs I h fun L C s6 H5 m6 ns6 hC I6 q=>?_) (fun _ s' hq=>wpAny_pure (wpAny_pure hq)) fun _ _ e=>e)
 show wpAny _ X.A (assign (.Name x pos') X.env (.ref L)) _ _ s6
 refine wpAny_assign_Name (zeP I6 hN hix hx (v:=.ref L) rfl (fun s7 I7 k7=>?_) hf)
 have kC:∃ m7,s7.heap.Ns C m7:=by
  obtain⟨a,sb,ha⟩:=k7;refine⟨m6,ns6.sameBut sb fun z=>?_⟩
  rcases ha with e|e
  . exact hC.2.1 (z.trans e)
  . exact hC.2.2.2.2.1 x a e z.symm
 obtain⟨m7,ns7⟩:=kC;refine⟨m7,ns7,fun h' sb=>⟨_,H5,I7.turnedL (t':=s7.toks) (ch:=[C]) (fun b o hb e=>sb.extBut b o (by simpa using hb) e) fun b hb=>?_,q⟩⟩
 have e:b=C:=by simpa using hb
 subst e;exact hC
theorem RdVs.length{K:Ybf}{H:Hp}{xs:List V}{ds:List PyData}(h:RdVs K H xs ds):xs.length=ds.length:=by
 induction xs generalizing ds with
 | nil=>cases h;rfl
 | cons x xs ih=>cases h with|cons a b=>rw [List.length_cons,List.length_cons,ih b]
theorem RdVs.get{K:Ybf}{H:Hp}{xs:List V}{ds:List PyData}{i:Nat}{d:PyData}(h:RdVs K H xs ds)(e:ds[i]?=some d):∃ x,xs[i]?=some x/\RdV K H x d:=by
 induction xs generalizing ds i with
 | nil=>cases h;simp at e
 | cons x xs ih=>
  cases h with
  | cons a b=>
   cases i with
   | zero=>cases e;exact⟨_,rfl,a⟩
   | succ i=>
    obtain⟨x,h1,h2⟩:=ih b (i:=i) (by simpa using e)
    exact⟨x,by simpa using h1,h2⟩
theorem RdVs.append{K:Ybf}{H:Hp}{xs ys:List V}{ds es:List PyData}(h:RdVs K H xs ds)(h':RdVs K H ys es):RdVs K H (xs++ys) (ds++es):=by
 induction xs generalizing ds with
 | nil=>cases h;exact h'
 | cons x xs ih=>cases h with|cons a b=>exact .cons a (ih b)
theorem RdVs.set{K:Ybf}{H:Hp}{x:V}{d:PyData}(h:RdV K H x d){xs:List V}{ds:List PyData}(i:Nat)(r:RdVs K H xs ds):RdVs K H (xs.set i x) (ds.set i d):=by
 induction xs generalizing ds i with
 | nil=>cases r;exact .nil
 | cons y xs ih=>
  cases r with
  | cons a b=>
   cases i with
   | zero=>exact .cons h b
   | succ i=>exact .cons a (ih i b)
theorem RdVs.take{K:Ybf}{H:Hp}{xs:List V}{ds:List PyData}(i:Nat)(r:RdVs K H xs ds):RdVs K H (xs.take i) (ds.take i):=by
 induction xs generalizing ds i with
 | nil=>cases r;rw [List.take_nil,List.take_nil];exact .nil
 | cons y xs ih=>
  cases r with
  | cons a b=>
   cases i with
   | zero=>exact .nil
   | succ i=>exact .cons a (ih i b)
theorem RdVs.drop{K:Ybf}{H:Hp}{xs:List V}{ds:List PyData}(i:Nat)(r:RdVs K H xs ds):RdVs K H (xs.drop i) (ds.drop i):=by
 induction xs generalizing ds i with
 | nil=>cases r;rw [List.drop_nil,List.drop_nil];exact .nil
 | cons y xs ih=>
  cases r with
  | cons a b=>
   cases i with
   | zero=>exact .cons a b
   | succ i=>exact ih i b
theorem RdVs.eraseIdx{K:Ybf}{H:Hp}{xs:List V}{ds:List PyData}(i:Nat)(r:RdVs K H xs ds):RdVs K H (xs.eraseIdx i) (ds.eraseIdx i):=by
 induction xs generalizing ds i with
 | nil=>cases r;exact .nil
 | cons y xs ih=>
  cases r with
  | cons a b=>
   cases i with
   | zero=>exact b
   | succ i=>exact .cons a (ih i b)
def tab0(P:Addr):HO:=.ext fun h=>h.get? P=some (PySem.W.tabObj #[])
def tabA(P c':Addr)(pos:Pos):HO:=.ext fun h=>∃ ps,h.get? P=some (PySem.W.tabObj ps)/\TriplesOk ps.toList/\codeAmong pos ps.toList=some (.ref c')
def zbA(c':Addr)(q:Str):HO:=.ext fun h=>h.CodeRec (.ref c') q
class LamW where
 pos:Pos
 q:Str
def Lk[LamW](P:Addr)(H:Hp):Prop:=∃ c',H P=some (tabA P c' LamW.pos)/\H c'=some (zbA c' LamW.q)
variable[LamW]
def zz(H H':Hp):Prop:=∀ b o,H b=some o->H' b=some o\/(o=tab0 b/\((∀ C,tab0 b≠excO b C)/\∀ q,tab0 b≠zbA b q)/\Lk b H')
theorem Same.x{H H':Hp}(s:Same H H'):zz H H':=fun b o h=>.inl (s b o h)
theorem zz.refl(H:Hp):zz H H:=(Same.refl H).x
theorem zz.free{H H':Hp}(e:zz H H'){l:Addr}(h:H' l=none):H l=none:=by
 cases q:H l with
 | none=>rfl
 | some o=>
  rcases e l o q with z|⟨_,_,c',z,_⟩
  . rw [h] at z;cases z
  . rw [h] at z;cases z
theorem zz.at{H H':Hp}(e:zz H H'){b:Addr}{o:HO}(h:H b=some o)(n:∀ f,o≠.ext f:=by intro f z;cases z):H' b=some o:=by
 rcases e b o h with z|⟨z,_⟩
 . exact z
 . exact absurd z (n _)
theorem zz.exc{H H':Hp}(e:zz H H'){a C:Addr}(h:H a=some (excO a C)):H' a=some (excO a C):=by
 rcases e a _ h with z|⟨z,n,_⟩
 . exact z
 . exact absurd z.symm (n.1 C)
theorem zz.code{H H':Hp}(e:zz H H'){a:Addr}{q:Str}(h:H a=some (zbA a q)):H' a=some (zbA a q):=by
 rcases e a _ h with z|⟨z,n,_⟩
 . exact z
 . exact absurd z.symm (n.2 q)
theorem Lk.same{P:Addr}{H H':Hp}(l:Lk P H)(e:zz H H'):Lk P H':=by
 obtain⟨c',h1,h2⟩:=l
 rcases e P _ h1 with z|⟨_,_,z⟩
 . exact⟨c',z,e.code h2⟩
 . exact z
theorem zz.trans{H H1 H2:Hp}(a:zz H H1)(b:zz H1 H2):zz H H2:=fun c o h=>by
 rcases a c o h with z|⟨e,n,l⟩
 . exact b c o z
 . exact .inr ⟨e,n,l.same b⟩
def TabU(P:Addr)(H:Hp):Prop:=H P=some (tab0 P)\/Lk P H
theorem TabU.same{P:Addr}{H H':Hp}(t:TabU P H)(e:zz H H'):TabU P H':=by
 rcases t with h|h
 . rcases e P _ h with z|⟨_,_,l⟩
   . exact .inl z
   . exact .inr l
 . exact .inr (h.same e)
structure Sub(G H:Hp):Prop where
 s:Same G H
 cl:∀ a f,G a≠some (.ext f)
theorem Sub.free{G H:Hp}(e:Sub G H){l:Addr}(h:H l=none):G l=none:=e.s.free h
theorem Sub.seq{K:Ybf}{G H:Hp}{a:Addr}{xs:List V}(e:Sub G H)(h:SqL K G a xs):SqL K H a xs:=e.s.seq h
theorem Sub.tup{K:Ybf}{G H:Hp}{a:Addr}{xs:List V}(e:Sub G H)(h:SqT K G a xs):SqT K H a xs:=e.s.tup h
theorem Sub.trans{G H H':Hp}(e:Sub G H)(x:zz H H'):Sub G H':=⟨fun b o h=>x.at (e.s b o h) (fun f z=>by rw [z] at h;exact e.cl b f h),e.cl⟩
theorem Lk.upd{b D:Addr}{H:Hp}{o:HO}(l:Lk b H)(nb:b≠D)(hD:∀ f,H D≠some (.ext f)):Lk b (upd H D o):=by
 obtain⟨c',h1,h2⟩:=l;exact⟨c',by rw [zj nb];exact h1,by rw [zj (fun y=>by rw [y] at h2;exact hD _ h2)];exact h2⟩
theorem zz.chg{H0 H:Hp}{l:Addr}{o us:HO}(s:zz H0 H)(h0:H0 l=none)(hu:H l=some us)(hux:∀ f,us≠.ext f):zz H0 (upd H l o):=fun b u e=>by
 have nb:=zZ e h0
 rcases s b u e with z|⟨z,n,c',h1,h2⟩
 . exact .inl (by rw [zj nb];exact z)
 . refine .inr ⟨z,n,c',by rw [zj nb];exact h1,?_⟩
   rw [zj (fun y=>by rw [y,hu] at h2;exact hux _ (Wba h2))];exact h2
theorem zz.tup{K:Ybf}{H H':Hp}{a:Addr}{xs:List V}(e:zz H H')(h:SqT K H a xs):SqT K H' a xs:=by
 rcases h with (h|⟨o,h⟩)|h
 . exact .inl (.inl (e.at h))
 . exact .inl (.inr ⟨o,e.at h⟩)
 . exact .inr h
def cln(H:Hp):Hp:=fun a=>match H a with
 | some (.ext _)=>none
 | o=>o
theorem zbw{H:Hp}{a:Addr}{o:HO}(h:H a=some o)(n:∀ f,o≠.ext f:=by intro f z;cases z):cln H a=some o:=by
 unfold cln;rw [h];cases o<;>first|rfl|exact absurd rfl (n _)
theorem zdz(H:Hp):Sub (cln H) H:=by
 refine⟨fun b o h=>?_,fun a f h=>?_⟩
 . unfold cln at h
   cases e:H b with
   | none=>rw [e] at h;cases h
   | some u=>rw [e] at h;cases u<;>first|exact h|cases h
 . unfold cln at h
   cases e:H a with
   | none=>rw [e] at h;cases h
   | some u=>rw [e] at h;cases u<;>cases h
end L2
namespace L3
open PySem PySem.Spec PyProof.Rows L2
variable[LamW]
abbrev D:=PyData
def keyD:Key->D
 | .inl i=>.int i
 | .inr x=>.str x
inductive Cl where
 | sh (f:Bool) (d:D)
 | ow (f:Bool) (ds:List D)
 | tr (ps:#[55]) (ms:List (List D))
 | dt (ds:List #[33])
 | dk (ks:List Int)
 | fd (ds:List #[33])
 | tk (k:List Key)
 | dm (a:Addr) (ds:List (Int×Int))
 | ex (C:Addr)
def Cl.d:Cl->D
 | .sh _ d=>d
 | .ow _ ds=>.list ds
 | .tr _ _=>.none
 | .dt _=>.none
 | .dk _=>.none
 | .fd _=>.none
 | .tk k=>.tuple (k.map keyD)
 | .dm _ _=>.none
 | .ex _=>.none
def Cl.f:Cl->Bool
 | .sh f _=>f
 | .ow f _=>f
 | .tr _ _=>false
 | .dt _=>false
 | .dk _=>false
 | .fd _=>false
 | .tk _=>true
 | .dm _ _=>false
 | .ex _=>false
def zq:D->Bool
 | .int _=>true|.bool _=>true|.str _=>true|.none=>true|_=>false
abbrev Env3:=List (Option Cl)
structure Gr(G H G' H':Hp):Prop where
 g:Same G G'
 h:zz H H'
 sub:Sub G' H'
 new:∀ b o,G' b=some o->G b=some o\/H b=none\/∃ xs,o=.tup xs
theorem Gr.refl{G H:Hp}(s:Sub G H):Gr G H G H:=⟨Same.refl _,zz.refl _,s,fun _ _ e=>.inl e⟩
theorem Gr.trans{G H G1 H1 G2 H2:Hp}(a:Gr G H G1 H1)(b:Gr G1 H1 G2 H2):Gr G H G2 H2:=
 ⟨a.g.trans b.g,a.h.trans b.h,b.sub,fun c o e=>by
  rcases b.new c o e with q|q|q
  . exact a.new c o q
  . exact .inr (.inl (a.h.free q))
  . exact .inr (.inr q)⟩
theorem Gr.put{G H:Hp}{p:Addr}{o:HO}(s:Sub G H)(hp:H p=none)(ho:∀ f,o≠.ext f:=by intro f z;cases z):Gr G H (upd G p o) (upd H p o):=
 ⟨zT (s.free hp) o,(zT hp o).x,⟨fun b u e=>by
  by_cases hb:b=p
  . subst hb;rw [zt] at e ⊢;exact e
  . rw [zj hb] at e ⊢;exact s.s b u e,fun b f e=>by
  by_cases hb:b=p
  . subst hb;rw [zt] at e;exact ho f (Wba e)
  . rw [zj hb] at e;exact s.cl b f e⟩,fun b u e=>by
  by_cases hb:b=p
  . subst hb;exact .inr (.inl hp)
  . rw [zj hb] at e;exact .inl e⟩
theorem Gr.apart{G H:Hp}{p:Addr}{o:HO}(s:Sub G H)(hp:H p=none):Gr G H G (upd H p o):=
 ⟨Same.refl _,(zT hp o).x,s.trans (zT hp o).x,fun _ _ e=>.inl e⟩
mutual
theorem J4{K:Ybf}{H H':Hp}(e:Same H H'):∀ {x:V} {d:D},RdV K H x d->RdV K H' x d
 | _,_,.non=>.non
 | _,_,.bl b=>.bl b
 | _,_,.int i=>.int i
 | _,_,.str x=>.str x
 | _,_,.lst q r=>.lst (e.seq q) (rdvs_same e r)
 | _,_,.tup q r=>.tup (e.tup q) (rdvs_same e r)
theorem rdvs_same{K:Ybf}{H H':Hp}(e:Same H H'):∀ {xs:List V} {ds:List D},RdVs K H xs ds->RdVs K H' xs ds
 | _,_,.nil=>.nil
 | _,_,.cons a b=>.cons (J4 e a) (rdvs_same e b)
end
theorem zfY{K:Ybf}{H:Hp}{a:Addr}{xs:List V}(h:SqL K H a xs):SqL K (cln H) a xs:=by
 rcases h with (h|⟨o,h⟩)|h
 . exact .inl (.inl (zbw h))
 . exact .inl (.inr ⟨o,zbw h⟩)
 . exact .inr h
theorem ziH{K:Ybf}{H:Hp}{a:Addr}{xs:List V}(h:SqT K H a xs):SqT K (cln H) a xs:=by
 rcases h with (h|⟨o,h⟩)|h
 . exact .inl (.inl (zbw h))
 . exact .inl (.inr ⟨o,zbw h⟩)
 . exact .inr h
mutual
theorem ziq{K:Ybf}{H:Hp}:∀ {x:V} {d:D},RdV K H x d->RdV K (cln H) x d
 | _,_,.non=>.non
 | _,_,.bl b=>.bl b
 | _,_,.int i=>.int i
 | _,_,.str x=>.str x
 | _,_,.lst q r=>.lst (zfY q) (rdvs_cln r)
 | _,_,.tup q r=>.tup (ziH q) (rdvs_cln r)
theorem rdvs_cln{K:Ybf}{H:Hp}:∀ {xs:List V} {ds:List D},RdVs K H xs ds->RdVs K (cln H) xs ds
 | _,_,.nil=>.nil
 | _,_,.cons a b=>.cons (ziq a) (rdvs_cln b)
end
mutual
inductive RdN(K:Ybf)(H0 G:Hp):V->D->Prop
 | non:RdN K H0 G .non .none
 | bl (b):RdN K H0 G (.bl b) (.bool b)
 | int (i):RdN K H0 G (.int i) (.int i)
 | str (x):RdN K H0 G (.str x) (.str x)
 | lst {a xs ds}:G a=some (.lst xs)->H0 a=none->RdNs K H0 G xs ds->RdN K H0 G (.ref a) (.list ds)
 | tup {a xs ds}:G a=some (.tup xs)->RdNs K H0 G xs ds->RdN K H0 G (.ref a) (.tuple ds)
inductive RdNs(K:Ybf)(H0 G:Hp):List V->List D->Prop
 | nil:RdNs K H0 G [] []
 | cons {x xs d ds}:RdN K H0 G x d->RdNs K H0 G xs ds->RdNs K H0 G (x::xs) (d::ds)
end
mutual
theorem zcg{K:Ybf}{H0 G:Hp}:∀ {x:V} {d:D},RdN K H0 G x d->RdV K G x d
 | _,_,.non=>.non
 | _,_,.bl b=>.bl b
 | _,_,.int i=>.int i
 | _,_,.str x=>.str x
 | _,_,.lst q _ r=>.lst (SqL.of q) (rdns_rd r)
 | _,_,.tup q r=>.tup (SqT.of q) (rdns_rd r)
theorem rdns_rd{K:Ybf}{H0 G:Hp}:∀ {xs:List V} {ds:List D},RdNs K H0 G xs ds->RdVs K G xs ds
 | _,_,.nil=>.nil
 | _,_,.cons a b=>.cons (zcg a) (rdns_rd b)
end
mutual
theorem jM{K:Ybf}{H0 H1 G G':Hp}(e:Same G G')(h:∀ a o,G a=some o->H0 a=none->H1 a=none):∀ {x:V} {d:D},RdN K H0 G x d->RdN K H1 G' x d
 | _,_,.non=>.non
 | _,_,.bl b=>.bl b
 | _,_,.int i=>.int i
 | _,_,.str x=>.str x
 | _,_,.lst q n r=>.lst (e _ _ q) (h _ _ q n) (rdns_mono e h r)
 | _,_,.tup q r=>.tup (e _ _ q) (rdns_mono e h r)
theorem rdns_mono{K:Ybf}{H0 H1 G G':Hp}(e:Same G G')(h:∀ a o,G a=some o->H0 a=none->H1 a=none):∀ {xs:List V} {ds:List D},RdNs K H0 G xs ds->RdNs K H1 G' xs ds
 | _,_,.nil=>.nil
 | _,_,.cons a b=>.cons (jM e h a) (rdns_mono e h b)
end
theorem Zw{K:Ybf}{H0 G:Hp}{v:V}{d:D}(h:zq d=true)(r:RdV K G v d):RdN K H0 G v d:=by
 cases r with
 | non=>exact .non
 | bl b=>exact .bl b
 | int i=>exact .int i
 | str s=>exact .str s
 | lst _ _=>cases h
 | tup _ _=>cases h
structure Rf(K:Ybf)(H0 G:Hp)(f:Bool)(v:V)(d:D):Prop where
 rd:RdV K G v d
 nw:f=true->RdN K H0 G v d
structure Rfs(K:Ybf)(H0 G:Hp)(f:Bool)(v:List V)(d:List D):Prop where
 rd:RdVs K G v d
 nw:f=true->RdNs K H0 G v d
theorem Rf.same{K:Ybf}{H0 G G':Hp}{f:Bool}{v:V}{d:D}(r:Rf K H0 G f v d)(e:Same G G'):Rf K H0 G' f v d:=⟨J4 e r.rd,fun h=>jM e (fun _ _ _ n=>n) (r.nw h)⟩
theorem Rfs.same{K:Ybf}{H0 G G':Hp}{f:Bool}{v:List V}{d:List D}(r:Rfs K H0 G f v d)(e:Same G G'):Rfs K H0 G' f v d:=⟨rdvs_same e r.rd,fun h=>rdns_mono e (fun _ _ _ n=>n) (r.nw h)⟩
theorem Rf.sc{K:Ybf}{H0 G:Hp}{f:Bool}{v:V}{d:D}(h:zq d=true)(r:RdV K G v d):Rf K H0 G f v d:=⟨r,fun _=>Zw h r⟩
theorem Rf.no{K:Ybf}{H0 G:Hp}{v:V}{d:D}(r:RdV K G v d):Rf K H0 G false v d:=⟨r,fun h=>by cases h⟩
theorem Rf.or{K:Ybf}{H0 G:Hp}{f:Bool}{v:V}{d:D}(r:Rf K H0 G f v d):Rf K H0 G (f||zq d) v d:=⟨r.rd,fun h=>by
 cases f with
 | true=>exact r.nw rfl
 | false=>exact Zw (by simpa using h) r.rd⟩
theorem Rfs.nil{K:Ybf}{H0 G:Hp}{f:Bool}:Rfs K H0 G f [] []:=⟨.nil,fun _=>.nil⟩
theorem Rfs.cons{K:Ybf}{H0 G:Hp}{f g:Bool}{v:V}{d:D}{vs:List V}{ds:List D}(r:Rf K H0 G f v d)(rs:Rfs K H0 G g vs ds):Rfs K H0 G (f&&g) (v::vs) (d::ds):=⟨.cons r.rd rs.rd,fun h=>by
 rw [Yak] at h;exact .cons (r.nw h.1) (rs.nw h.2)⟩
theorem zjh{K:Ybf}{H0 H:Hp}{xs:List V}{ds:List D}{i:Nat}{x:V}{d:D}(r:RdNs K H0 H xs ds)(e:xs[i]?=some x)(e':ds[i]?=some d):RdN K H0 H x d:=by
 induction xs generalizing ds i with
 | nil=>simp at e
 | cons y xs ih=>
  cases r with
  | cons a b=>
   cases i with
   | zero=>cases e;cases e';exact a
   | succ i=>exact ih b (i:=i) (by simpa using e) (by simpa using e')
theorem Rfs.get{K:Ybf}{H0 G:Hp}{f:Bool}{vs:List V}{ds:List D}{i:Nat}{d:D}(r:Rfs K H0 G f vs ds)(h:ds[i]?=some d):∃ v,vs[i]?=some v/\Rf K H0 G f v d:=by
 obtain⟨v,h1,h2⟩:=r.rd.get h;exact⟨v,h1,h2,fun hf=>zjh (r.nw hf) h1 h⟩
theorem zeX{K:Ybf}{H0 G:Hp}{vs:List V}{ds:List D}(h:ds.all zq=true)(r:RdVs K G vs ds):RdNs K H0 G vs ds:=by
 induction vs generalizing ds with
 | nil=>cases r;exact .nil
 | cons v vs ih=>
  cases r with
  | cons a b=>
   rw [List.all_cons,Yak] at h;exact .cons (Zw h.1 a) (ih h.2 b)
theorem Rfs.or{K:Ybf}{H0 G:Hp}{f:Bool}{vs:List V}{ds:List D}(r:Rfs K H0 G f vs ds):Rfs K H0 G (f||ds.all zq) vs ds:=⟨r.rd,fun h=>by
 cases f with
 | true=>exact r.nw rfl
 | false=>exact zeX (by simpa using h) r.rd⟩
theorem zbo(ws:List Int):(ws.map PyData.int).all zq=true:=by
 rw [List.all_map];exact Wa3.mpr fun _ _=>rfl
theorem Rfs.length{K:Ybf}{H0 G:Hp}{f:Bool}{vs:List V}{ds:List D}(r:Rfs K H0 G f vs ds):vs.length=ds.length:=r.rd.length
theorem zbS{K:Ybf}{H0 H:Hp}{xs ys:List V}{ds es:List D}(h:RdNs K H0 H xs ds)(h':RdNs K H0 H ys es):RdNs K H0 H (xs++ys) (ds++es):=by
 induction xs generalizing ds with
 | nil=>cases h;exact h'
 | cons x xs ih=>cases h with|cons a b=>exact .cons a (ih b)
theorem zix{K:Ybf}{H0 H:Hp}{x:V}{d:D}(h:RdN K H0 H x d){xs:List V}{ds:List D}(i:Nat)(r:RdNs K H0 H xs ds):RdNs K H0 H (xs.set i x) (ds.set i d):=by
 induction xs generalizing ds i with
 | nil=>cases r;exact .nil
 | cons y xs ih=>
  cases r with
  | cons a b=>
   cases i with
   | zero=>exact .cons h b
   | succ i=>exact .cons a (ih i b)
theorem zhN{K:Ybf}{H0 H:Hp}{xs:List V}{ds:List D}(i:Nat)(r:RdNs K H0 H xs ds):RdNs K H0 H (xs.take i) (ds.take i):=by
 induction xs generalizing ds i with
 | nil=>cases r;rw [List.take_nil,List.take_nil];exact .nil
 | cons y xs ih=>
  cases r with
  | cons a b=>
   cases i with
   | zero=>exact .nil
   | succ i=>exact .cons a (ih i b)
theorem zlu{K:Ybf}{H0 H:Hp}{xs:List V}{ds:List D}(i:Nat)(r:RdNs K H0 H xs ds):RdNs K H0 H (xs.drop i) (ds.drop i):=by
 induction xs generalizing ds i with
 | nil=>cases r;rw [List.drop_nil,List.drop_nil];exact .nil
 | cons y xs ih=>
  cases r with
  | cons a b=>
   cases i with
   | zero=>exact .cons a b
   | succ i=>exact ih i b
theorem zks{K:Ybf}{H0 H:Hp}{xs:List V}{ds:List D}(i:Nat)(r:RdNs K H0 H xs ds):RdNs K H0 H (xs.eraseIdx i) (ds.eraseIdx i):=by
 induction xs generalizing ds i with
 | nil=>cases r;exact .nil
 | cons y xs ih=>
  cases r with
  | cons a b=>
   cases i with
   | zero=>exact b
   | succ i=>exact .cons a (ih i b)
theorem Rfs.snoc{K:Ybf}{H0 G:Hp}{f g:Bool}{v:V}{d:D}{vs:List V}{ds:List D}(rs:Rfs K H0 G g vs ds)(r:Rf K H0 G f v d):Rfs K H0 G (g&&f) (vs++[v]) (ds++[d]):=⟨rs.rd.append (.cons r.rd .nil),fun h=>by
 rw [Yak] at h;exact zbS (rs.nw h.1) (.cons (r.nw h.2) .nil)⟩
theorem Rfs.append{K:Ybf}{H0 G:Hp}{f g:Bool}{us:List V}{es:List D}{vs:List V}{ds:List D}(rs:Rfs K H0 G g vs ds)(r:Rfs K H0 G f us es):Rfs K H0 G (g&&f) (vs++us) (ds++es):=⟨rs.rd.append r.rd,fun h=>by
 rw [Yak] at h;exact zbS (rs.nw h.1) (r.nw h.2)⟩
theorem Rfs.set{K:Ybf}{H0 G:Hp}{f g:Bool}{v:V}{d:D}{vs:List V}{ds:List D}(rs:Rfs K H0 G g vs ds)(r:Rf K H0 G f v d)(i:Nat):Rfs K H0 G (g&&f) (vs.set i v) (ds.set i d):=⟨rs.rd.set r.rd i,fun h=>by
 rw [Yak] at h;exact zix (r.nw h.2) i (rs.nw h.1)⟩
theorem Rfs.take{K:Ybf}{H0 G:Hp}{g:Bool}{vs:List V}{ds:List D}(rs:Rfs K H0 G g vs ds)(i:Nat):Rfs K H0 G g (vs.take i) (ds.take i):=⟨rs.rd.take i,fun h=>zhN i (rs.nw h)⟩
theorem Rfs.drop{K:Ybf}{H0 G:Hp}{g:Bool}{vs:List V}{ds:List D}(rs:Rfs K H0 G g vs ds)(i:Nat):Rfs K H0 G g (vs.drop i) (ds.drop i):=⟨rs.rd.drop i,fun h=>zlu i (rs.nw h)⟩
theorem Rfs.eraseIdx{K:Ybf}{H0 G:Hp}{g:Bool}{vs:List V}{ds:List D}(rs:Rfs K H0 G g vs ds)(i:Nat):Rfs K H0 G g (vs.eraseIdx i) (ds.eraseIdx i):=⟨rs.rd.eraseIdx i,fun h=>zks i (rs.nw h)⟩
structure Tr(K:Ybf)(H0 G H:Hp)(l:Addr)(ps:#[55])(ms:List (List D)):Prop where
 top:H l=some (.lst (ps.map V.ref))
 topG:G l=none
 nd:(l::ps).Nodup
 len:ps.length=ms.length
 item:∀ (k:Nat) (p:Addr) (m:List D),ps[k]?=some p->ms[k]?=some m->∃ vs,H p=some (.lst vs)/\G p=none/\Rfs K H0 G true vs m
inductive Dr(K:Ybf)(H0 G:Hp):List #[48]->List #[33]->Prop
 | nil:Dr K H0 G [] []
 | cons {k v d kvs ds}:Rf K H0 G true v d->Dr K H0 G kvs ds->Dr K H0 G ((k,v)::kvs) ((k,d)::ds)
theorem Dr.same{K:Ybf}{H0 G G':Hp}{kvs:List #[48]}{ds:List #[33]}(r:Dr K H0 G kvs ds)(e:Same G G'):Dr K H0 G' kvs ds:=by
 induction r with
 | nil=>exact .nil
 | cons a b ih=>exact .cons (a.same e) ih
def KAt(G:Hp)(o:Obj)(kvs:List #[48]):Prop:=∃ (es:Array DictEntry) (ep:Nat) (as:#[55]),o.ExactDict/\o.data=.dict es ep/\es.toList.map (·.key)=as.map Value.ref/\as.length=kvs.length/\∀ (j:Nat) (a:Addr) (k:List Key) (v:V),as[j]?=some a->kvs[j]?=some (k,v)->G a=some (.tup (k.map kV))
theorem KAt.same{G G':Hp}{o:Obj}{kvs:List #[48]}(h:KAt G o kvs)(g:Same G G'):KAt G' o kvs:=by
 obtain⟨es,ep,as,h0,h1,h2,h3,h4⟩:=h;exact⟨es,ep,as,h0,h1,h2,h3,fun j a k v e1 e2=>g _ _ (h4 j a k v e1 e2)⟩
def encM(ds:List (Int×Int)):List (Key×V):=ds.map fun p=>(Sum.inl p.1,V.int p.2)
inductive Vw(K:Ybf)(H0 G H:Hp):V->Cl->Prop
 | sh {v f d}:Rf K H0 G f v d->Vw K H0 G H v (.sh f d)
 | ow {l vs f ds}:H l=some (.lst vs)->Rfs K H0 G f vs ds->G l=none->Vw K H0 G H (.ref l) (.ow f ds)
 | tr {l ps ms}:Tr K H0 G H l ps ms->Vw K H0 G H (.ref l) (.tr ps ms)
 | dt {l kvs ds}:H l=some (.dT kvs)->Dr K H0 G kvs ds->G l=none->Vw K H0 G H (.ref l) (.dt ds)
 | dk {l ks}:H l=some (.dK (ks.map fun k=>(Sum.inl k,V.bl true)))->G l=none->Vw K H0 G H (.ref l) (.dk ks)
 | fd {l o kvs ds}:G l=some (.frz o (.dT kvs))->Dr K H0 G kvs ds->KAt G o kvs->Vw K H0 G H (.ref l) (.fd ds)
 | tk {b k}:G b=some (.tup (k.map kV))->Vw K H0 G H (.ref b) (.tk k)
 | dm {a ds}:H a=some (.dK (encM ds))->G a=none->Vw K H0 G H (.ref a) (.dm a ds)
 | ex {l C}:H l=some (excO l C)->Vw K H0 G H (.ref l) (.ex C)
def Cl.dat:Cl->Bool
 | .ex _=>false
 | .tr _ _=>false
 | .dt _=>false
 | .dk _=>false
 | .fd _=>false
 | .dm _ _=>false
 | _=>true
def Has:Cl->V->Addr->Prop
 | .ow _ _,v,a=>v=.ref a
 | .tr ps _,v,a=>v=.ref a\/a∈ps
 | .dt _,v,a=>v=.ref a
 | .dk _,v,a=>v=.ref a
 | .dm _ _,v,a=>v=.ref a
 | _,_,_=>False
theorem Tr.at{K:Ybf}{H0 G H:Hp}{l:Addr}{ps:#[55]}{ms:List (List D)}(t:Tr K H0 G H l ps ms){p:Addr}(h:p∈ps):∃ m vs,H p=some (.lst vs)/\G p=none/\Rfs K H0 G true vs m:=by
 obtain⟨k,hk,e⟩:=Yam h;have hk':k<ms.length:=by rw [<-t.len];exact hk
 obtain⟨vs,h1⟩:=t.item k p ms[k] (by rw [<-e];exact YaQ hk) (YaQ hk')
 exact⟨_,vs,h1⟩
theorem Vw.has{K:Ybf}{H0 G H:Hp}{v:V}{c:Cl}{a:Addr}(w:Vw K H0 G H v c)(h:Has c v a):(∃ o,H a=some o/\∀ f,o≠.ext f)/\G a=none:=by
 cases w with
 | sh r=>exact False.elim h
 | ex e=>exact False.elim h
 | fd _ _ _=>exact False.elim h
 | tk _=>exact False.elim h
 | ow e r n=>cases h;exact⟨⟨_,e,fun C z=>by cases z⟩,n⟩
 | dt e r n=>cases h;exact⟨⟨_,e,fun C z=>by cases z⟩,n⟩
 | dk e n=>cases h;exact⟨⟨_,e,fun C z=>by cases z⟩,n⟩
 | dm e n=>cases h;exact⟨⟨_,e,fun C z=>by cases z⟩,n⟩
 | tr t=>
  rcases h with h|h
  . cases h;exact⟨⟨_,t.top,fun C z=>by cases z⟩,t.topG⟩
  . obtain⟨m,vs,h1,h2,_⟩:=t.at h
    exact⟨⟨_,h1,fun C z=>by cases z⟩,h2⟩
theorem Vw.turn{K:Ybf}{H0 G H G' H':Hp}{v:V}{c:Cl}(w:Vw K H0 G H v c)(g:Same G G')(hx:∀ a C,H a=some (excO a C)->H' a=some (excO a C))(hh:∀ a,Has c v a->H' a=H a/\G' a=G a):Vw K H0 G' H' v c:=by
 cases w with
 | sh r=>exact .sh (r.same g)
 | ex h=>exact .ex (hx _ _ h)
 | fd h r k=>exact .fd (g _ _ h) (r.same g) (k.same g)
 | tk h=>exact .tk (g _ _ h)
 | ow h r n=>
  obtain⟨h1,h2⟩:=hh _ rfl;exact .ow (h1.trans h) (r.same g) (h2.trans n)
 | dt h r n=>
  obtain⟨h1,h2⟩:=hh _ rfl;exact .dt (h1.trans h) (r.same g) (h2.trans n)
 | dk h n=>
  obtain⟨h1,h2⟩:=hh _ rfl;exact .dk (h1.trans h) (h2.trans n)
 | dm h n=>
  obtain⟨h1,h2⟩:=hh _ rfl;exact .dm (h1.trans h) (h2.trans n)
 | tr t=>
  obtain⟨h1,h2⟩:=hh _ #[70];refine .tr ⟨h1.trans t.top,h2.trans t.topG,t.nd,t.len,fun k p m hp hm=>?_⟩
  obtain⟨vs,q1,q2,q3⟩:=t.item k p m hp hm;obtain⟨h3,h4⟩:=hh p (.inr (Yah hp));exact⟨vs,h3.trans q1,h4.trans q2,q3.same g⟩
theorem Vw.ntup{K:Ybf}{H0 G H:Hp}{v:V}{c:Cl}{a:Addr}(w:Vw K H0 G H v c)(h:Has c v a):∀ xs,H a≠some (.tup xs):=by
 cases w with
 | sh r=>exact False.elim h
 | ex e=>exact False.elim h
 | fd _ _ _=>exact False.elim h
 | tk _=>exact False.elim h
 | ow e r n=>cases h;intro xs z;rw [e] at z;cases z
 | dt e r n=>cases h;intro xs z;rw [e] at z;cases z
 | dk e n=>cases h;intro xs z;rw [e] at z;cases z
 | dm e n=>cases h;intro xs z;rw [e] at z;cases z
 | tr t=>
  rcases h with h|h
  . cases h;intro xs z;rw [t.top] at z;cases z
  . obtain⟨m,vs,h1,h2,_⟩:=t.at h
    intro xs z;rw [h1] at z;cases z
theorem Gr.hid{G H G' H':Hp}(g:Gr G H G' H'){l:Addr}{o:HO}(h:H l=some o)(n:G l=none)(hx:∀ f,o≠.ext f)(ht:∀ xs,H l≠some (.tup xs)):G' l=none:=by
 cases e:G' l with
 | none=>rfl
 | some o=>
  rcases g.new _ _ e with q|q|⟨xs,q⟩
  . rw [n] at q;cases q
  . rw [h] at q;cases q
  . have:=g.sub.s _ _ e
    rw [g.h.at h hx,q] at this;exact absurd (h.trans this) (ht xs)
theorem Vw.gr{K:Ybf}{H0 G H G' H':Hp}{v:V}{c:Cl}(w:Vw K H0 G H v c)(g:Gr G H G' H'):Vw K H0 G' H' v c:=
 w.turn g.g (fun a C e=>g.h.exc e) fun a h=>by
  obtain⟨⟨o,e,no⟩,n⟩:=w.has h;exact⟨(g.h.at e no).trans e.symm,(g.hid e n no (w.ntup h)).trans n.symm⟩
theorem ZL{K:Ybf}{G:Hp}:∀ k:List Key,RdVs K G (k.map kV) (k.map keyD)
 | []=>.nil
 | .inl i::r=>.cons (.int i) (ZL r)
 | .inr x::r=>.cons (.str x) (ZL r)
theorem zbD{K:Ybf}{H0 G:Hp}:∀ k:List Key,RdNs K H0 G (k.map kV) (k.map keyD)
 | []=>.nil
 | .inl i::r=>.cons (.int i) (zbD r)
 | .inr x::r=>.cons (.str x) (zbD r)
theorem Vw.rd{K:Ybf}{H0 G H:Hp}{v:V}{c:Cl}(w:Vw K H0 G H v c)(s:Sub G H)(hc:c.dat=true):RdV K H v c.d:=by
 cases w with
 | sh r=>exact J4 s.s r.rd
 | ow h r n=>exact .lst (SqL.of h) (rdvs_same s.s r.rd)
 | tr t=>cases hc
 | dt _ _ _=>cases hc
 | dk _ _=>cases hc
 | fd _ _ _=>cases hc
 | tk h=>exact .tup (SqT.of (s.s _ _ h)) (ZL _)
 | dm _ _=>cases hc
 | ex h=>cases hc
inductive Vws(K:Ybf)(H0 G H:Hp):List V->List Cl->Prop
 | nil:Vws K H0 G H [] []
 | cons {v c vs cs}:Vw K H0 G H v c->Vws K H0 G H vs cs->Vws K H0 G H (v::vs) (c::cs)
def shs:List Cl->Option (Bool×List D)
 | []=>some (true,[])
 | .sh f d::r=>(shs r).map fun p=>((f&&p.1),d::p.2)
 | .ow _ _::_=>none
 | .tr _ _::_=>none
 | .dt _::_=>none
 | .dk _::_=>none
 | .fd _::_=>none
 | .tk _::_=>none
 | .dm _ _::_=>none
 | .ex _::_=>none
theorem Vws.shs{K:Ybf}{H0 G H:Hp}{vs:List V}{cs:List Cl}{p:Bool×List D}(h:Vws K H0 G H vs cs)(e:shs cs=some p):Rfs K H0 G p.1 vs p.2:=by
 induction h generalizing p with
 | nil=>cases e;exact .nil
 | cons a b ih=>
  cases a with
  | sh r=>
   unfold L3.shs at e;rename_i cs' f d;cases q:L3.shs cs' with
   | none=>rw [q] at e;cases e
   | some ds=>rw [q] at e;cases e;exact .cons r (ih q)
  | ow _ _ _=>cases e
  | tr _=>cases e
  | dt _ _ _=>cases e
  | dk _ _=>cases e
  | fd _ _ _=>cases e
  | tk _=>cases e
  | dm _ _=>cases e
  | ex _=>cases e
theorem Vws.rds{K:Ybf}{H0 G H:Hp}(s:Sub G H){vs:List V}{cs:List Cl}(h:Vws K H0 G H vs cs)(hd:cs.all Cl.dat=true):RdVs K H vs (cs.map Cl.d):=by
 induction h with
 | nil=>exact .nil
 | cons a b ih=>
  rw [List.all_cons,Yak] at hd;exact .cons (a.rd s hd.1) (ih hd.2)
structure Fr3(K:Ybf)(H0 G0:Hp)(ρ : Env3)(σ : L2.St)(G H:Hp):Prop where
 keep:zz H0 H
 sub:Sub G H
 old:∀ b o,G b=some o->G0 b=some o\/H0 b=none\/∃ xs,o=.tup xs
 g0:Same G0 G
 slot:∀ (i:Nat) (c:Cl),ρ[i]?=some (some c)->∃ v,σ[i]?=some (some v)/\Vw K H0 G H v c
 mine:∀ (i:Nat) (c:Cl) (v:V) (a:Addr),ρ[i]?=some (some c)->σ[i]?=some (some v)->Has c v a->H0 a=none
 apart:∀ (i j:Nat) (c c':Cl) (v v':V) (a:Addr),ρ[i]?=some (some c)->ρ[j]?=some (some c')->σ[i]?=some (some v)->σ[j]?=some (some v')->Has c v a->Has c' v' a->i=j
 len:ρ.length = σ.length
section
variable{K:Ybf}{H0 G0:Hp}{ρ : Env3}{σ : L2.St}{G H G' H':Hp}
theorem Fr3.gr(F:#[26])(g:Gr G H G' H'):Fr3 K H0 G0 ρ σ G' H' where
 keep:=F.keep.trans g.h
 sub:=g.sub
 old:=fun b o e=>by
  rcases g.new b o e with q|q|q
  . exact F.old b o q
  . exact .inr (.inl (F.keep.free q))
  . exact .inr (.inr q)
 g0:=F.g0.trans g.g
 slot:=fun i c e=>by
  obtain⟨v,h1,h2⟩:=F.slot i c e;exact⟨v,h1,h2.gr g⟩
 mine:=F.mine
 apart:=F.apart
 len:=F.len
theorem zL{α : Type}{l:List α}{i j:Nat}{x y:α}(h:(l.set i x)[j]?=some y):(i=j/\y=x/\i<l.length)\/(i≠j/\l[j]?=some y):=by
 by_cases e:i=j
 . subst e
   rw [List.getElem?_set_self'] at h;cases q:l[i]? with
   | none=>rw [q] at h;cases h
   | some z=>
    rw [q] at h;cases h;exact .inl ⟨rfl,rfl,(Ya8.mp q).1⟩
 . rw [Yac e] at h
   exact .inr ⟨e,h⟩
theorem Fr3.vw(F:#[26]){i:Nat}{c:Cl}{v:V}(h:ρ[i]?=some (some c))(h':σ[i]?=some (some v)):Vw K H0 G H v c:=by
 obtain⟨u,h1,h2⟩:=F.slot i c h;rw [h'] at h1;cases h1;exact h2
theorem Fr3.put(F:#[26]){i:Nat}{v:V}{c:Cl}(s:zz H H')(w:Vw K H0 G H' v c)(hn:∀ a,Has c v a->H a=none):Fr3 K H0 G0 (ρ.set i (some c)) (σ.set i (some v)) G H':=by
 have F':=F.gr (G':=G) (H':=H') ⟨Same.refl _,s,F.sub.trans s,fun _ _ e=>.inl e⟩
 have ne:∀ (j:Nat) (c':Cl) (v':V) (a:Addr),ρ[j]?=some (some c')->σ[j]?=some (some v')->Has c' v' a->Has c v a->False:=fun j c' v' a e e' h h'=>by
  obtain⟨⟨o,q,_⟩,_⟩:=(F.vw e e').has h;rw [hn a h'] at q;cases q
 exact {
  keep:=F'.keep
  sub:=F'.sub
  old:=F'.old
  g0:=F'.g0
  slot:=fun j c' e=>by
   rcases zL e with ⟨rfl,q,hl⟩|⟨n,q⟩
   . cases q
     exact⟨v,by rw [Yas (by rw [<-F.len];exact hl)],w⟩
   . obtain⟨v',h1,h2⟩:=F'.slot j c' q
     exact⟨v',by rw [Yac n];exact h1,h2⟩
  mine:=fun j c' v' a e e' h=>by
   rcases zL e with ⟨rfl,q,hl⟩|⟨n,q⟩
   . cases q
     rw [Yas (by rw [<-F.len];exact hl)] at e'
     cases e';exact F.keep.free (hn a h)
   . rw [Yac n] at e'
     exact F.mine j c' v' a q e' h
  apart:=fun j k c1 c2 v1 v2 a e1 e2 e3 e4 h1 h2=>by
   rcases zL e1 with ⟨rfl,q,hl⟩|⟨n,q⟩
   . rcases zL e2 with ⟨rfl,q',hl'⟩|⟨n',q'⟩
     . rfl
     . cases q
       rw [Yas (by rw [<-F.len];exact hl)] at e3
       cases e3;rw [Yac n'] at e4
       exact(ne k c2 v2 a q' e4 h2 h1).elim
   . rcases zL e2 with ⟨rfl,q',hl'⟩|⟨n',q'⟩
     . cases q'
       rw [Yas (by rw [<-F.len];exact hl')] at e4
       cases e4;rw [Yac n] at e3
       exact(ne j c1 v1 a q e3 h1 h2).elim
     . rw [Yac n] at e3
       rw [Yac n'] at e4;exact F.apart j k c1 c2 v1 v2 a q q' e3 e4 h1 h2
  len:=by rw [YaN,YaN];exact F.len }
theorem Fr3.set(F:#[26]){i:Nat}{v:V}{f:Bool}{d:D}(r:Rf K H0 G f v d):Fr3 K H0 G0 (ρ.set i (some (.sh f d))) (σ.set i (some v)) G H:=F.put (zz.refl _) (.sh r) fun _ h=>False.elim h
theorem Fr3.drop(F:#[26]){i:Nat}:Fr3 K H0 G0 (ρ.set i none) σ G H where
 keep:=F.keep
 sub:=F.sub
 old:=F.old
 g0:=F.g0
 slot:=fun j c e=>by
  rcases zL e with ⟨rfl,q,hl⟩|⟨n,q⟩
  . cases q
  . exact F.slot j c q
 mine:=fun j c v a e e' h=>by
  rcases zL e with ⟨rfl,q,hl⟩|⟨n,q⟩
  . cases q
  . exact F.mine j c v a q e' h
 apart:=fun j k c1 c2 v1 v2 a e1 e2 e3 e4 h1 h2=>by
  rcases zL e1 with ⟨rfl,q,hl⟩|⟨n,q⟩
  . cases q
  . rcases zL e2 with ⟨rfl,q',hl⟩|⟨n',q'⟩
    . cases q'
    . exact F.apart j k c1 c2 v1 v2 a q q' e3 e4 h1 h2
 len:=by rw [YaN];exact F.len
theorem Fr3.own(F:#[26]){i:Nat}{l:Addr}{vs:List V}{f:Bool}{ds:List D}(r:Rfs K H0 G f vs ds)(hl:H l=none):Fr3 K H0 G0 (ρ.set i (some (.ow f ds))) (σ.set i (some (.ref l))) G (upd H l (.lst vs)):=
 F.put (zT hl _).x (.ow zt r (F.sub.free hl)) fun a h=>by cases h;exact hl
theorem Fr3.chg(F:#[26]){i:Nat}{l:Addr}{o:HO}{c c':Cl}{v:V}(hi:ρ[i]?=some (some c))(hv:σ[i]?=some (some v))(hl:Has c v l)(hc:∀ a,Has c' v a->Has c v a)(w:Vw K H0 G (upd H l o) v c'):Fr3 K H0 G0 (ρ.set i (some c')) σ G (upd H l o):=by
 have h0:H0 l=none:=F.mine i c v l hi hv hl;obtain⟨⟨us,hu,hux⟩,gl⟩:=(F.vw hi hv).has hl;refine⟨F.keep.chg h0 hu hux,⟨fun b o e=>by rw [zj (zZ e gl)];exact F.sub.s b o e,F.sub.cl⟩,F.old,F.g0,fun j c2 e=>?_,fun j c2 v2 a e e' h=>?_,fun j k c1 c2 v1 v2 a e1 e2 e3 e4 h1 h2=>?_,by rw [YaN];exact F.len⟩
 . rcases zL e with ⟨rfl,q,_⟩|⟨n,q⟩
   . cases q
     exact⟨v,hv,w⟩
   . obtain⟨v',h1,h2⟩:=F.slot j c2 q
     refine⟨v',h1,h2.turn (Same.refl _) (fun a C e=>?_) fun a h=>⟨?_,rfl⟩⟩
     . rw [zj (fun z=>by subst z;rw [hu] at e;exact hux _ (Wba e))];exact e
     . rw [zj (fun z=>by subst z;exact n (F.apart i j c c2 v v' a hi q hv h1 hl h))]
 . rcases zL e with ⟨rfl,q,_⟩|⟨n,q⟩
   . cases q
     rw [hv] at e';cases e';exact F.mine i c v a hi hv (hc a h)
   . exact F.mine j c2 v2 a q e' h
 . rcases zL e1 with ⟨rfl,q,_⟩|⟨n,q⟩
   . rcases zL e2 with ⟨rfl,q',_⟩|⟨n',q'⟩
     . rfl
     . cases q
       rw [hv] at e3;cases e3;exact F.apart i k c c2 v v2 a hi q' hv e4 (hc a h1) h2
   . rcases zL e2 with ⟨rfl,q',_⟩|⟨n',q'⟩
     . cases q'
       rw [hv] at e4;cases e4;exact F.apart j i c1 c v1 v a q hi e3 hv h1 (hc a h2)
     . exact F.apart j k c1 c2 v1 v2 a q q' e3 e4 h1 h2
theorem Fr3.change(F:#[26]){i:Nat}{l:Addr}{vs:List V}{f f':Bool}{ds es:List D}(hi:ρ[i]?=some (some (.ow f ds)))(hl:σ[i]?=some (some (.ref l)))(r:Rfs K H0 G f' vs es):Fr3 K H0 G0 (ρ.set i (some (.ow f' es))) σ G (upd H l (.lst vs)):=
 F.chg hi hl rfl (fun _ h=>h) (.ow zt r ((F.vw hi hl).has rfl).2)
theorem Fr3.still(F:#[26]){i:Nat}{c:Cl}{v:V}{f:Bool}{d:D}(hi:ρ[i]?=some (some c))(hv:σ[i]?=some (some v))(r:∀ G',Same G G'->(∀ a,Has c v a->G' a=H a/\H0 a=none)->Rf K H0 G' f v d):∃ G',Same G G'/\Fr3 K H0 G0 (ρ.set i (some (.sh f d))) σ G' H:=by
 have hd:∀ b,Decidable (Has c v b):=fun b=>Classical.propDecidable _
 have w:=F.vw hi hv;have e1:∀ b,Has c v b->(fun b=>if Has c v b then H b else G b) b=H b:=fun b h=>if_pos h
 have e2:∀ b,¬Has c v b->(fun b=>if Has c v b then H b else G b) b=G b:=fun b h=>if_neg h
 generalize (fun b=>if Has c v b then H b else G b)=G' at e1 e2
 have gg:Same G G':=fun b o e=>by
  rw [e2 b (fun h=>by rw [(w.has h).2] at e;cases e)];exact e
 refine⟨G',gg,F.keep,⟨fun b o e=>?_,fun b f e=>?_⟩,fun b o e=>?_,F.g0.trans gg,fun j c2 e=>?_,fun j c2 v2 a e e' h=>?_,fun j k c1 c2 v1 v2 a q1 q2 q3 q4 h1 h2=>?_,by rw [YaN];exact F.len⟩
 . by_cases h:Has c v b
   . rw [e1 b h] at e;exact e
   . rw [e2 b h] at e;exact F.sub.s b o e
 . by_cases h:Has c v b
   . rw [e1 b h] at e
     obtain⟨⟨u,hu,hn⟩,_⟩:=w.has h;rw [hu] at e;exact hn f (Wba e)
   . rw [e2 b h] at e;exact F.sub.cl b f e
 . by_cases h:Has c v b
   . exact .inr (.inl (F.mine i c v b hi hv h))
   . rw [e2 b h] at e;exact F.old b o e
 . rcases zL e with ⟨rfl,q,_⟩|⟨n,q⟩
   . cases q
     exact⟨v,hv,.sh (r G' gg fun a h=>⟨e1 a h,F.mine i c v a hi hv h⟩)⟩
   . obtain⟨v',h1,h2⟩:=F.slot j c2 q
     exact⟨v',h1,h2.turn gg (fun _ _ e=>e) fun a h=>⟨rfl,e2 a fun h'=>n (F.apart i j c c2 v v' a hi q hv h1 h' h)⟩⟩
 . rcases zL e with ⟨rfl,q,_⟩|⟨n,q⟩
   . cases q;exact False.elim h
   . exact F.mine j c2 v2 a q e' h
 . rcases zL q1 with ⟨rfl,q,_⟩|⟨n,q⟩
   . cases q;exact False.elim h1
   . rcases zL q2 with ⟨rfl,q',_⟩|⟨n',q'⟩
     . cases q';exact False.elim h2
     . exact F.apart j k c1 c2 v1 v2 a q q' q3 q4 h1 h2
theorem Fr3.freeze(F:#[26]){i:Nat}{f:Bool}{ds:List D}(hi:ρ[i]?=some (some (.ow f ds))):∃ G',Same G G'/\Fr3 K H0 G0 (ρ.set i (some (.sh f (.list ds)))) σ G' H:=by
 obtain⟨v,hv,w⟩:=F.slot i _ hi;refine F.still hi hv fun G' gg q=>?_
 cases w with
 | ow h r n=>
  obtain⟨q1,q2⟩:=q _ rfl;rw [h] at q1;exact⟨.lst (SqL.of q1) (rdvs_same gg r.rd),fun hf=>.lst q1 q2 (rdns_mono gg (fun _ _ _ z=>z) (r.nw hf))⟩
theorem zmq{ps:#[55]}{ms:List (List D)}(hl:ps.length=ms.length)(h:∀ (k:Nat) (p:Addr) (m:List D),ps[k]?=some p->ms[k]?=some m->RdN K H0 G (.ref p) (.list m)):RdNs K H0 G (ps.map V.ref) (ms.map PyData.list):=by
 induction ps generalizing ms with
 | nil => cases ms with
  | nil=>exact .nil
  | cons m ms=>cases hl
 | cons p ps ih => cases ms with
  | nil=>cases hl
  | cons m ms=>exact .cons (h 0 p m rfl rfl) (ih (Nat.succ.inj hl) fun k q n h1 h2=>h (k+1) q n (by simpa using h1) (by simpa using h2))
theorem Fr3.freezeT(F:#[26]){i:Nat}{ps:#[55]}{ms:List (List D)}(hi:ρ[i]?=some (some (.tr ps ms))):∃ G',Same G G'/\Fr3 K H0 G0 (ρ.set i (some (.sh true (.list (ms.map PyData.list))))) σ G' H:=by
 obtain⟨v,hv,w⟩:=F.slot i _ hi;refine F.still hi hv fun G' gg q=>?_
 cases w with
 | tr t=>
  obtain⟨q1,q2⟩:=q _ #[70];have n:RdN K H0 G' (.ref _) (.list (ms.map PyData.list)):=.lst (q1.trans t.top) q2 (zmq t.len fun k p m h1 h2=>by
   obtain⟨vs,a,b,c⟩:=t.item k p m h1 h2;obtain⟨q3,q4⟩:=q p (.inr (Yah h1));exact .lst (q3.trans a) q4 (rdns_mono gg (fun _ _ _ z=>z) (c.nw rfl)))
  exact⟨zcg n,fun _=>n⟩
theorem Fr3.rebase(F:#[26]):Fr3 K H0 G ρ σ G H:=⟨F.keep,F.sub,fun _ _ e=>.inl e,Same.refl _,F.slot,F.mine,F.apart,F.len⟩
theorem Fr3.back{ρ1:Env3}{σ1:L2.St}{G1 H1:Hp}(F:Fr3 K H0 G1 ρ σ G H)(B:Fr3 K H0 G0 ρ1 σ1 G1 H1):Fr3 K H0 G0 ρ σ G H:=
 ⟨F.keep,F.sub,fun b o e=>(F.old b o e).elim (fun q=>B.old b o q) .inr,B.g0.trans F.g0,F.slot,F.mine,F.apart,F.len⟩
theorem Fr3.gr0(F:#[26]):Gr G0 H0 G H:=⟨F.g0,F.keep,F.sub,F.old⟩
theorem Gr.back{ρ1:Env3}{σ1:L2.St}{G1 H1:Hp}(g:Gr G1 H0 G H)(B:Fr3 K H0 G0 ρ1 σ1 G1 H1):Gr G0 H0 G H:=
 ⟨B.g0.trans g.g,g.h,g.sub,fun b o e=>(g.new b o e).elim (fun q=>B.old b o q) .inr⟩
end
variable[LamW]
theorem el5{α β γ : Type}{P R:α->β->γ->Prop}{C:Prop}(f:∀ a b c,P a b c->R a b c->C)(h:∃ a b c,P a b c/\R a b c):C:=by
 obtain⟨a,b,c,x,y⟩:=h;exact f a b c x y
theorem el7{α β γ δ : Type}{P R S:α->β->γ->δ->Prop}{C:Prop}(f:∀ a b c d,P a b c d->R a b c d->S a b c d->C)(h:∃ a b c d,P a b c d/\R a b c d/\S a b c d):C:=by
 obtain⟨a,b,c,d,x,y,z⟩:=h;exact f a b c d x y z
theorem el2{α β : Type}{P R S:α->β->Prop}{C:Prop}(f:∀ a b,P a b->R a b->S a b->C)(h:∃ a b,P a b/\R a b/\S a b):C:=by
 obtain⟨a,b,x,y,z⟩:=h;exact f a b x y z
theorem el3{α β γ : Type}{P R S T:α->β->γ->Prop}{C:Prop}(f:∀ a b c,P a b c->R a b c->S a b c->T a b c->C)(h:∃ a b c,P a b c/\R a b c/\S a b c/\T a b c):C:=by
 obtain⟨a,b,c,x,y,z,w⟩:=h;exact f a b c x y z w
abbrev TE3:=Env3->(Cl->Prop)->Prop
abbrev TT3:=Env3->(Bool->Prop)->Prop
abbrev TA3:=Env3->(List Cl->Prop)->Prop
abbrev TN3:=Env3->(Bool->List D->Prop)->Prop
structure Ends3 where
 nx:Env3->Prop
 rt:Bool->D->Prop
 bk:Env3->Prop:=fun _=>False
 ct:Env3->Prop:=fun _=>False
 rm:Cl->Env3->Prop:=fun _ _=>False
abbrev TS3:=Ends3->Env3->Prop
def jo(K:Ybf)(H0:Hp)(t:TE3):TE:=fun σ H Q=>∃ G0 ρ G,Fr3 K H0 G0 ρ σ G H/\t ρ fun c=>∀ v G' H',Gr G H G' H'->Vw K H0 G' H' v c->Q v H'
def ze7(K:Ybf)(H0:Hp)(t:TN3):TE:=fun σ H Q=>∃ G0 ρ G,Fr3 K H0 G0 ρ σ G H/\t ρ fun f ds=>∀ l vs G' H',Gr G H G' H'->H' l=none->Rfs K H0 G' f vs ds->Q (.ref l) (upd H' l (.lst vs))
def j9(K:Ybf)(H0:Hp)(t:TT3):TT:=fun σ H Q=>∃ G0 ρ G,Fr3 K H0 G0 ρ σ G H/\t ρ fun b=>∀ G' H',Gr G H G' H'->Q b H'
def znd(K:Ybf)(H0:Hp)(t:TA3):TA:=fun σ H Q=>∃ G0 ρ G,Fr3 K H0 G0 ρ σ G H/\t ρ fun cs=>∀ vs G' H',Gr G H G' H'->Vws K H0 G' H' vs cs->Q vs H'
structure LD(K:Ybf)(H0 G0:Hp)(A:Ends3)(B:Ends):Prop where
 nx:∀ ρ σ G H,Fr3 K H0 G0 ρ σ G H->A.nx ρ->B.nx σ H
 rt:∀ f d v G H,Gr G0 H0 G H->Rf K H0 G f v d->A.rt f d->B.rt v H
 bk:∀ ρ σ G H,Fr3 K H0 G0 ρ σ G H->A.bk ρ->B.bk σ H
 ct:∀ ρ σ G H,Fr3 K H0 G0 ρ σ G H->A.ct ρ->B.ct σ H
 rm:∀ c v ρ σ G H,Fr3 K H0 G0 ρ σ G H->Vw K H0 G H v c->(∀ a,Has c v a->H0 a=none/\∀ (j:Nat) (c':Cl) (v':V),ρ[j]?=some (some c')->σ[j]?=some (some v')->¬Has c' v' a)->A.rm c ρ->B.rt v H
def zga(K:Ybf)(H0:Hp)(t:TS3):TS:=fun B σ H=>∃ G0 A ρ G,Fr3 K H0 G0 ρ σ G H/\t A ρ/\LD K H0 G0 A B
structure PE3(X:Cx)(H0:Hp)(e:Expr)(t:TE3):Prop where
 mono:∀ ρ (Q Q':Cl->Prop),(∀ c,Q c->Q' c)->t ρ Q->t ρ Q'
 ok:PE X e (jo X.K H0 t)
structure PN3(X:Cx)(H0:Hp)(e:Expr)(t:TN3):Prop where
 mono:∀ ρ (Q Q':Bool->List D->Prop),(∀ f c,Q f c->Q' f c)->t ρ Q->t ρ Q'
 ok:PE X e (ze7 X.K H0 t)
structure PT3(X:Cx)(H0:Hp)(e:Expr)(t:TT3):Prop where
 mono:∀ ρ (Q Q':Bool->Prop),(∀ c,Q c->Q' c)->t ρ Q->t ρ Q'
 ok:PT X e (j9 X.K H0 t)
structure PW3(X:Cx)(H0:Hp)(e:Expr)(t:TT3):Prop where
 mono:∀ ρ (Q Q':Bool->Prop),(∀ c,Q c->Q' c)->t ρ Q->t ρ Q'
 ok:PW X e (j9 X.K H0 t)
structure PA3(X:Cx)(H0:Hp)(es:#[54])(t:TA3):Prop where
 mono:∀ ρ (Q Q':List Cl->Prop),(∀ c,Q c->Q' c)->t ρ Q->t ρ Q'
 ok:PA X es (znd X.K H0 t)
def PS3(X:Cx)(H0:Hp)(st:Stmt)(t:TS3):Prop:=PS X st (zga X.K H0 t)
def PSs3(X:Cx)(H0:Hp)(st:List Stmt)(t:TS3):Prop:=PSs X st (zga X.K H0 t)
theorem PE.imp{X:Cx}{e:Expr}{t t':TE}(h:PE X e t)(i:∀ σ H Q,t' σ H Q->t σ H Q):PE X e t':=fun pins s σ H Q I q=>h pins s σ H Q I (i _ _ _ q)
theorem PT.imp{X:Cx}{e:Expr}{t t':TT}(h:PT X e t)(i:∀ σ H Q,t' σ H Q->t σ H Q):PT X e t':=fun pins s σ H Q I q=>h pins s σ H Q I (i _ _ _ q)
theorem PW.imp{X:Cx}{e:Expr}{t t':TT}(h:PW X e t)(i:∀ σ H Q,t' σ H Q->t σ H Q):PW X e t':=fun wh pins s σ H Q I q=>h wh pins s σ H Q I (i _ _ _ q)
theorem PA.imp{X:Cx}{e:#[54]}{t t':TA}(h:PA X e t)(i:∀ σ H Q,t' σ H Q->t σ H Q):PA X e t':=fun pos pins s σ H Q I q=>h pos pins s σ H Q I (i _ _ _ q)
theorem PS.imp{X:Cx}{e:Stmt}{t t':TS}(h:PS X e t)(i:∀ B σ H,t' B σ H->t B σ H):PS X e t':=fun pins s σ H B I q=>h pins s σ H B I (i _ _ _ q)
theorem PSs.imp{X:Cx}{e:List Stmt}{t t':TS}(h:PSs X e t)(i:∀ B σ H,t' B σ H->t B σ H):PSs X e t':=fun pins s σ H B I q=>h pins s σ H B I (i _ _ _ q)
section
variable{X:Cx}{H0:Hp}{e a b c:Expr}{pos:Pos}
def atV(o:Option (Option Cl))(P:Cl->Prop):Prop:=match o with
 | some (some c)=>P c
 | _=>False
theorem zfv{o:Option (Option Cl)}{P:Cl->Prop}(h:atV o P):∃ c,o=some (some c)/\P c:=by
 cases o with
 | none=>exact False.elim h
 | some x => cases x with
  | none=>exact False.elim h
  | some c=>exact⟨c,rfl,h⟩
def asS(c:Cl)(P:Bool->D->Prop):Prop:=match c with
 | .sh f d=>P f d
 | _=>False
theorem jV{c:Cl}{P:Bool->D->Prop}(h:asS c P):∃ f d,c=.sh f d/\P f d:=by
 cases c with
 | sh f d=>exact⟨f,d,rfl,h⟩
 | _=>exact False.elim h
def asD(d:D)(P:Bool->Prop):Prop:=match d with
 | .bool k=>P k
 | _=>False
def asB(c:Cl)(P:Bool->Prop):Prop:=match c with
 | .sh true d=>asD d P
 | _=>False
theorem zgk{c:Cl}{P:Bool->Prop}(h:asB c P):∃ k,c=.sh true (.bool k)/\P k:=by
 cases c with
 | sh f d => cases f with
  | true => cases d with
   | bool k=>exact⟨k,rfl,h⟩
   | _=>exact False.elim h
  | false=>exact False.elim h
 | _=>exact False.elim h
def optP{α : Type}(o:Option α)(P:α->Prop):Prop:=match o with
 | some a=>P a
 | none=>False
theorem zbC{α : Type}{o:Option α}{P:α->Prop}(h:optP o P):∃ a,o=some a/\P a:=by
 cases o with
 | none=>exact False.elim h
 | some a=>exact⟨a,rfl,h⟩
def asT(d:D)(P:List D->Prop):Prop:=match d with
 | .tuple ds=>P ds
 | _=>False
theorem J9{d:D}{P:List D->Prop}(h:asT d P):∃ ds,d=.tuple ds/\P ds:=by
 cases d with
 | tuple ds=>exact⟨ds,rfl,h⟩
 | _=>exact False.elim h
def asLd(d:D)(P:List D->Prop):Prop:=match d with
 | .list ds=>P ds
 | _=>False
def asL(c:Cl)(P:Bool->List D->Prop):Prop:=match c with
 | .sh f d=>asLd d (P f)
 | _=>False
theorem zdh{c:Cl}{P:Bool->List D->Prop}(h:asL c P):∃ f ds,c=.sh f (.list ds)/\P f ds:=by
 cases c with
 | sh f d => cases d with
  | list ds=>exact⟨f,ds,rfl,h⟩
  | _=>exact False.elim h
 | _=>exact False.elim h
def atO(o:Option (Option Cl))(P:Bool->List D->Prop):Prop:=match o with
 | some (some (.ow f ds))=>P f ds
 | _=>False
theorem zfG{o:Option (Option Cl)}{P:Bool->List D->Prop}(h:atO o P):∃ f ds,o=some (some (.ow f ds))/\P f ds:=by
 cases o with
 | none=>exact False.elim h
 | some x => cases x with
  | none=>exact False.elim h
  | some c => cases c with
   | ow f ds=>exact⟨f,ds,rfl,h⟩
   | _=>exact False.elim h
def Jt{α : Type}(l:List α)(P:α->List α->Prop):Prop:=match l with
 | d::r=>P d r
 | []=>False
theorem zdG{α : Type}{l:List α}{P:α->List α->Prop}(h:Jt l P):∃ d r,l=d::r/\P d r:=by
 cases l with
 | nil=>exact False.elim h
 | cons d r=>exact⟨d,r,rfl,h⟩
def nilP{α : Type}(l:List α)(P:Prop):Prop:=match l with
 | []=>P
 | _::_=>False
theorem zfJ{α : Type}{l:List α}{P:Prop}(h:nilP l P):l=[]/\P:=by
 cases l with
 | nil=>exact⟨rfl,h⟩
 | cons d r=>exact False.elim h
def asId(d:D)(P:Int->Prop):Prop:=match d with
 | .int i=>P i
 | _=>False
def asI(c:Cl)(P:Int->Prop):Prop:=match c with
 | .sh true d=>asId d P
 | _=>False
theorem jy{c:Cl}{P:Int->Prop}(h:asI c P):∃ k,c=.sh true (.int k)/\P k:=by
 cases c with
 | sh f d => cases f with
  | true => cases d with
   | int k=>exact⟨k,rfl,h⟩
   | _=>exact False.elim h
  | false=>exact False.elim h
 | _=>exact False.elim h
def v3(i:Nat):TE3:=fun ρ Q=>atV ρ[i]? Q
def k3(d:D):TE3:=fun _ Q=>Q (.sh true d)
theorem n3(i:Nat){x:Str}(hN:X.N[i]?=some x:=by rfl)(hv:Vis X.env.scope x:=by first|exact Or.inl rfl|exact Or.inr (Or.inl rfl)|exact Or.inr (Or.inr rfl))(hd:#[21]:=by decide)(hcd:#[27]:=by decide) :
 PE3 X H0 (.Name x pos) (v3 i):=by
 refine⟨fun ρ Q Q' h q=>?_,PE.imp (jC hN hv hd hcd) fun σ H Q=>el5 fun G0 ρ G F q=>?_⟩
 . obtain⟨c,e,q⟩:=zfv q
   show atV ρ[i]? Q'
   rw [e];exact h c q
 obtain⟨c,e,q⟩:=zfv q;obtain⟨v,h1,h2⟩:=F.slot i c e;exact⟨v,h1,q v G H (Gr.refl F.sub) h2⟩
theorem zae{v:V}{d:D}(h:PE X e (tC v))(r:∀ G,RdV X.K G v d)(hs:zq d=true):PE3 X H0 e (k3 d):=
 ⟨fun ρ Q Q' h q=>h _ q,PE.imp h fun σ H Q=>el5 fun G0 ρ G F q=>q v G H (Gr.refl F.sub) (.sh (.sc hs (r G)))⟩
theorem i3{i j pos}:PE3 X H0 (.Constant (.int i) j pos) (k3 (.int i)):=zae zbN (fun _=>.int i) rfl
theorem b3{i j pos}:PE3 X H0 (.Constant (.bool i) j pos) (k3 (.bool i)):=zae zmp (fun _=>.bl i) rfl
theorem non3{j pos}:PE3 X H0 (.Constant .none j pos) (k3 .none):=zae zjc (fun _=>.non) rfl
theorem s3{i j pos}:PE3 X H0 (.Constant (.str i) j pos) (k3 (.str i)):=zae zjA (fun _=>.str i) rfl
theorem g3{x:Str}{v:V}{u:Value}{d:D}(hg:Gl X x)(hm:X.mg x=some u)(r:RelV v u)(rd:∀ G,RdV X.K G v d)(hs:zq d=true)(hd:#[21]:=by decide):PE3 X H0 (.Name x pos) (k3 d):=zae (zgu hg hm r hd) rd hs
def nw3(t:TN3):TE3:=fun ρ Q=>t ρ fun f ds=>Q (.sh f (.list ds))
theorem new3{t:TN3}(h:PN3 X H0 e t):PE3 X H0 e (nw3 t):=
 ⟨fun ρ Q Q' hq q=>h.mono ρ _ _ (fun f ds=>hq _) q,PE.imp h.ok fun σ H Q=>el5 fun G0 ρ G F q=>⟨G0,ρ,G,F,h.mono ρ _ _ (fun f ds k l vs G' H' g hl r=>
  k (.ref l) (upd G' l (.lst vs)) (upd H' l (.lst vs)) (g.trans (Gr.put g.sub hl)) (.sh ⟨.lst (SqL.of zt) (rdvs_same (zT (g.sub.free hl) _) r.rd),fun hf=>.lst zt ((F.keep.trans g.h).free hl) (rdns_mono (zT (g.sub.free hl) _) (fun _ _ _ z=>z) (r.nw hf))⟩)) q⟩⟩
abbrev R3:=Cl->Cl->(Bool->D->Prop)->Prop
def ZD(K:Ybf)(H0:Hp)(r:R3):R2:=fun x y H Q=>∃ G a b,Sub G H/\Vw K H0 G H x a/\Vw K H0 G H y b/\r a b fun f d=>∀ v G' H',Gr G H G' H'->Rf K H0 G' f v d->Q v H'
structure OpOk(X:Cx)(f:#[66])(r:R3):Prop where
 mono:∀ a b (Q Q':Bool->D->Prop),(∀ f c,Q f c->Q' f c)->r a b Q->r a b Q'
 ok:∀ H0,OpR X f (ZD X.K H0 r)
theorem OpR.imp{f:#[66]}{r r':R2}(h:OpR X f r)(i:∀ x y H Q,r' x y H Q->r x y H Q):OpR X f r':=fun pins s σ H x y v u Q I rx ry q=>h pins s σ H x y v u Q I rx ry (i _ _ _ _ q)
def o3(r:R3)(ta tb:TE3):TE3:=fun ρ Q=>ta ρ fun a=>tb ρ fun b=>r a b fun f d=>Q (.sh f d)
theorem ZI{r:R3}{ta tb:TE3}(hr:∀ a b (Q Q':Bool->D->Prop),(∀ f c,Q f c->Q' f c)->r a b Q->r a b Q')(ha:∀ ρ (Q Q':Cl->Prop),(∀ c,Q c->Q' c)->ta ρ Q->ta ρ Q')(hb:∀ ρ (Q Q':Cl->Prop),(∀ c,Q c->Q' c)->tb ρ Q->tb ρ Q') :
 ∀ ρ (Q Q':Cl->Prop),(∀ c,Q c->Q' c)->o3 r ta tb ρ Q->o3 r ta tb ρ Q':=fun ρ Q Q' h q=>ha ρ _ _ (fun a=>hb ρ _ _ fun b=>hr a b _ _ fun f d=>h _) q
theorem zbh{r:R3}{ta tb:TE3}(hr:∀ a b (Q Q':Bool->D->Prop),(∀ f c,Q f c->Q' f c)->r a b Q->r a b Q')(ha:∀ ρ (Q Q':Cl->Prop),(∀ c,Q c->Q' c)->ta ρ Q->ta ρ Q')(hb:∀ ρ (Q Q':Cl->Prop),(∀ c,Q c->Q' c)->tb ρ Q->tb ρ Q'){K:Ybf} :
 ∀ σ H Q,jo K H0 (o3 r ta tb) σ H Q->tOp (ZD K H0 r) (jo K H0 ta) (jo K H0 tb) σ H Q:=fun σ H Q=>el5 fun G0 ρ G F q=>
 ⟨G0,ρ,G,F,ha ρ _ _ (fun a qa v1 G1 H1 g1 w1=>⟨G0,ρ,G1,F.gr g1,hb ρ _ _ (fun b qb v2 G2 H2 g2 w2=>⟨G2,a,b,g2.sub,w1.gr g2,w2,hr a b _ _ (fun f d k v G' H' g r=>k v G' H' ((g1.trans g2).trans g) (.sh r)) qb⟩) qa⟩) q⟩
theorem op3{op:Operator}{r:R3}{ta tb:TE3}(ho:OpOk X (binaryOp op) r)(ha:PE3 X H0 a ta)(hb:PE3 X H0 b tb):PE3 X H0 (.BinOp a op b pos) (o3 r ta tb):=
 ⟨ZI ho.mono ha.mono hb.mono,PE.imp (zd2 (ho.ok H0) ha.ok hb.ok) (zbh ho.mono ha.mono hb.mono)⟩
theorem cmp3{op:CmpOp}{r:R3}{ta tb:TE3}(ho:OpOk X (compareOp op) r)(ha:PE3 X H0 a ta)(hb:PE3 X H0 b tb)(hm:behindInMarks op b=false):PE3 X H0 (.Compare a [op] [b] pos) (o3 r ta tb):=
 ⟨ZI ho.mono ha.mono hb.mono,PE.imp (znj (ho.ok H0) ha.ok hb.ok hm) (zbh ho.mono ha.mono hb.mono)⟩
def tt3(t:TE3):TT3:=fun ρ Q=>t ρ fun c=>asB c Q
theorem zfK{K:Ybf}{H0 G H:Hp}{v:V}{f k:Bool}(w:Vw K H0 G H v (.sh f (.bool k))):v=.bl k:=by
 cases w with
 | sh r=>cases r.rd;rfl
theorem zb2{t:TE3}{K:Ybf}(ht:∀ ρ (Q Q':Cl->Prop),(∀ c,Q c->Q' c)->t ρ Q->t ρ Q'):∀ σ H Q,j9 K H0 (tt3 t) σ H Q->ZQ (jo K H0 t) σ H Q:=fun σ H Q=>el5 fun G0 ρ G F q=>
 ⟨G0,ρ,G,F,ht ρ _ _ (fun c q v G' H' g w=>by obtain⟨k,e,q⟩:=zgk q;subst e;exact⟨k,zfK w,q G' H' g⟩) q⟩
theorem za2{t:TE3}(ht:∀ ρ (Q Q':Cl->Prop),(∀ c,Q c->Q' c)->t ρ Q->t ρ Q'):∀ ρ (Q Q':Bool->Prop),(∀ c,Q c->Q' c)->tt3 t ρ Q->tt3 t ρ Q':=fun ρ Q Q' h q=>ht ρ _ _ (fun c q=>by obtain⟨k,e,q⟩:=zgk q;subst e;exact h k q) q
theorem zex{t t':TE}(h:∀ σ H Q,t' σ H Q->t σ H Q):∀ σ H Q,ZQ t' σ H Q->ZQ t σ H Q:=fun σ H Q q=>h _ _ _ q
theorem zm{op:CmpOp}{r:R3}{ta tb:TE3}(ho:OpOk X (compareOp op) r)(ha:PE3 X H0 a ta)(hb:PE3 X H0 b tb)(hm:behindInMarks op b=false):PT3 X H0 (.Compare a [op] [b] pos) (tt3 (o3 r ta tb)):=
 ⟨za2 (ZI ho.mono ha.mono hb.mono),PT.imp (zki (ho.ok H0) ha.ok hb.ok hm) fun σ H Q q=>zex (zbh ho.mono ha.mono hb.mono) σ H Q (zb2 (ZI ho.mono ha.mono hb.mono) σ H Q q)⟩
def ch3(r r':R3)(ta tb tc:TE3):TE3:=fun ρ Q=>ta ρ fun x=>tb ρ fun y=>r x y fun _ z=>∃ k,z=.bool k/\if k=true then tc ρ fun w=>r' y w fun f d=>Q (.sh f d) else Q (.sh true (.bool false))
theorem zbG{K:Ybf}{G:Hp}{v:V}{k:Bool}(w:RdV K G v (.bool k)):v=.bl k:=by cases w;rfl
theorem zd7{r r':R3}{ta tb tc:TE3}(hr:∀ a b (Q Q':Bool->D->Prop),(∀ f c,Q f c->Q' f c)->r a b Q->r a b Q')(hr':∀ a b (Q Q':Bool->D->Prop),(∀ f c,Q f c->Q' f c)->r' a b Q->r' a b Q')(ha:∀ ρ (Q Q':Cl->Prop),(∀ c,Q c->Q' c)->ta ρ Q->ta ρ Q')(hb:∀ ρ (Q Q':Cl->Prop),(∀ c,Q c->Q' c)->tb ρ Q->tb ρ Q')
 (hc:∀ ρ (Q Q':Cl->Prop),(∀ c,Q c->Q' c)->tc ρ Q->tc ρ Q'):∀ ρ (Q Q':Cl->Prop),(∀ c,Q c->Q' c)->ch3 r r' ta tb tc ρ Q->ch3 r r' ta tb tc ρ Q':=fun ρ Q Q' h q=>ha ρ _ _ (fun x=>hb ρ _ _ fun y=>hr x y _ _ fun _ z ⟨k,e,q⟩=>⟨k,e,by
 cases k with
 | true=>exact hc ρ _ _ (fun w=>hr' y w _ _ fun f d=>h _) q
 | false=>exact h _ q⟩) q
theorem zlx{r r':R3}{ta tb tc:TE3}(hr:∀ a b (Q Q':Bool->D->Prop),(∀ f c,Q f c->Q' f c)->r a b Q->r a b Q')(hr':∀ a b (Q Q':Bool->D->Prop),(∀ f c,Q f c->Q' f c)->r' a b Q->r' a b Q')(ha:∀ ρ (Q Q':Cl->Prop),(∀ c,Q c->Q' c)->ta ρ Q->ta ρ Q')(hb:∀ ρ (Q Q':Cl->Prop),(∀ c,Q c->Q' c)->tb ρ Q->tb ρ Q')
 (hc:∀ ρ (Q Q':Cl->Prop),(∀ c,Q c->Q' c)->tc ρ Q->tc ρ Q') {K:Ybf}:∀ σ H Q,jo K H0 (ch3 r r' ta tb tc) σ H Q->zgF (ZD K H0 r) (ZD K H0 r') (jo K H0 ta) (jo K H0 tb) (jo K H0 tc) σ H Q:=fun σ H Q=>el5 fun G0 ρ G F q=>
 ⟨G0,ρ,G,F,ha ρ _ _ (fun x qx v1 G1 H1 g1 w1=>⟨G0,ρ,G1,F.gr g1,hb ρ _ _ (fun y qy v2 G2 H2 g2 w2=>⟨G2,x,y,g2.sub,w1.gr g2,w2,hr x y _ _ (fun _ z hyp v3 G3 H3 g3 r3=>by
  obtain⟨k,e,q⟩:=hyp;subst e;refine⟨k,zbG r3.rd,?_⟩;cases k with
  | false=>exact q _ G3 H3 ((g1.trans g2).trans g3) (.sh (.sc rfl (.bl false)))
  | true=>exact⟨G0,ρ,G3,F.gr ((g1.trans g2).trans g3),hc ρ _ _ (fun w qw v4 G4 H4 g4 w4=>⟨G4,y,w,g4.sub,(w2.gr g3).gr g4,w4,hr' y w _ _ (fun f d k v G' H' g r=>k v G' H' ((((g1.trans g2).trans g3).trans g4).trans g) (.sh r)) qw⟩) q⟩) qy⟩) qx⟩) q⟩
theorem JM{op op':CmpOp}{r r':R3}{ta tb tc:TE3}(ho:OpOk X (compareOp op) r)(ho':OpOk X (compareOp op') r')(ha:PE3 X H0 a ta)(hb:PE3 X H0 b tb)(hc:PE3 X H0 c tc)(hm:lastMarks [op,op'] [b,c]=false:=by with_unfolding_all rfl) :
 PT3 X H0 (.Compare a [op,op'] [b,c] pos) (tt3 (ch3 r r' ta tb tc)):=
 ⟨za2 (zd7 ho.mono ho'.mono ha.mono hb.mono hc.mono),PT.imp (zkw (ho.ok H0) (ho'.ok H0) ha.ok hb.ok hc.ok hm) fun σ H Q q=>zex (zlx ho.mono ho'.mono ha.mono hb.mono hc.mono) σ H Q (zb2 (zd7 ho.mono ho'.mono ha.mono hb.mono hc.mono) σ H Q q)⟩
abbrev U3:=Cl->(Bool->D->Prop)->Prop
def zlz(K:Ybf)(H0:Hp)(r:U3):V->Hp->VK->Prop:=fun x H Q=>∃ G a,Sub G H/\Vw K H0 G H x a/\r a fun f d=>∀ v G' H',Gr G H G' H'->Rf K H0 G' f v d->Q v H'
structure UnOk(X:Cx)(f:Value->Sem Value)(r:U3):Prop where
 mono:∀ a (Q Q':Bool->D->Prop),(∀ f c,Q f c->Q' f c)->r a Q->r a Q'
 ok:∀ H0,UnR X f (zlz X.K H0 r)
def u3(r:U3)(ta:TE3):TE3:=fun ρ Q=>ta ρ fun a=>r a fun f d=>Q (.sh f d)
theorem un3{op:UnaryOp}{r:U3}{ta:TE3}(ho:UnOk X (unaryOp op) r)(ha:PE3 X H0 a ta):PE3 X H0 (.UnaryOp op a pos) (u3 r ta):=
 ⟨fun ρ Q Q' h q=>ha.mono ρ _ _ (fun a=>ho.mono a _ _ fun f d=>h _) q,PE.imp (zjJ (ho.ok H0) ha.ok) fun σ H Q=>el5 fun G0 ρ G F q=>
  ⟨G0,ρ,G,F,ha.mono ρ _ _ (fun a qa v1 G1 H1 g1 w1=>⟨G1,a,g1.sub,w1,ho.mono a _ _ (fun f d k v G' H' g r=>k v G' H' (g1.trans g) (.sh r)) qa⟩) q⟩⟩
theorem val3{t:TE3}(h:PE3 X H0 e t)(he:∀ whole,isTrue e X.env whole=(do let v <-whole;standAt e.pos;holding [v] (truthy v)):=by intro _;rfl):PT3 X H0 e (tt3 t):=
 ⟨za2 h.mono,PT.imp (znF h.ok he) (zb2 h.mono)⟩
def and3(t u:TT3):TT3:=fun ρ Q=>t ρ fun k=>if k=true then u ρ Q else Q false
def or3(t u:TT3):TT3:=fun ρ Q=>t ρ fun k=>if k=true then Q true else u ρ Q
def not3(t:TT3):TT3:=fun ρ Q=>t ρ fun k=>Q (!k)
theorem jp{t:TT3}(h:PT3 X H0 a t):PT3 X H0 (.UnaryOp .Not a pos) (not3 t):=
 ⟨fun ρ Q Q' hq q=>h.mono ρ _ _ (fun k=>hq _) q,PT.imp (zl1 h.ok) fun σ H Q=>el5 fun G0 ρ G F q=>⟨G0,ρ,G,F,q⟩⟩
theorem JY{t:TT3}(h:PT3 X H0 a t):PW3 X H0 (.BoolOp .And [a] pos) t:=⟨h.mono,zk2 h.ok⟩
theorem jA{t:TT3}(h:PT3 X H0 a t):PW3 X H0 (.BoolOp .Or [a] pos) t:=⟨h.mono,zlB h.ok⟩
theorem Ja{rest:#[54]}{t u:TT3}(h:PT3 X H0 a t)(h':PW3 X H0 (.BoolOp .And (b::rest) pos) u):PW3 X H0 (.BoolOp .And (a::b::rest) pos) (and3 t u):=
 ⟨fun ρ Q Q' hq q=>h.mono ρ _ _ (fun k=>by cases k;exact hq _;exact h'.mono ρ _ _ hq) q,PW.imp (ziT h.ok h'.ok) fun σ H Q=>el5 fun G0 ρ G F q=>⟨G0,ρ,G,F,h.mono ρ _ _ (fun k qk G1 H1 g1=>by
  cases k with
  | false=>exact qk G1 H1 g1
  | true=>exact⟨G0,ρ,G1,F.gr g1,h'.mono ρ _ _ (fun k q G2 H2 g2=>q G2 H2 (g1.trans g2)) qk⟩) q⟩⟩
theorem jc{rest:#[54]}{t u:TT3}(h:PT3 X H0 a t)(h':PW3 X H0 (.BoolOp .Or (b::rest) pos) u):PW3 X H0 (.BoolOp .Or (a::b::rest) pos) (or3 t u):=
 ⟨fun ρ Q Q' hq q=>h.mono ρ _ _ (fun k=>by cases k;exact h'.mono ρ _ _ hq;exact hq _) q,PW.imp (zmJ h.ok h'.ok) fun σ H Q=>el5 fun G0 ρ G F q=>⟨G0,ρ,G,F,h.mono ρ _ _ (fun k qk G1 H1 g1=>by
  cases k with
  | true=>exact qk G1 H1 g1
  | false=>exact⟨G0,ρ,G1,F.gr g1,h'.mono ρ _ _ (fun k q G2 H2 g2=>q G2 H2 (g1.trans g2)) qk⟩) q⟩⟩
theorem pw3{t:TT3}(h:PW3 X H0 e t):PT3 X H0 e t:=⟨h.mono,h.ok.pt⟩
def ZU(ta tb:TE3):TE3:=fun ρ Q=>ta ρ fun c=>∃ k,c=.sh true (.bool k)/\if k=true then tb ρ Q else Q (.sh true (.bool false))
theorem one3{op}{t:TE3}(h:PE3 X H0 a t):PE3 X H0 (.BoolOp op [a] pos) t:=⟨h.mono,zhX h.ok⟩
theorem zlK{rest:#[54]}{ta tb:TE3}(h:PE3 X H0 a ta)(h':PE3 X H0 (.BoolOp .And (b::rest) pos) tb):PE3 X H0 (.BoolOp .And (a::b::rest) pos) (ZU ta tb):=
 ⟨fun ρ Q Q' hq q=>h.mono ρ _ _ (fun c ⟨k,e,q⟩=>⟨k,e,by cases k;exact hq _ q;exact h'.mono ρ _ _ hq q⟩) q,PE.imp (zlr h.ok h'.ok) fun σ H Q=>el5 fun G0 ρ G F q=>⟨G0,ρ,G,F,h.mono ρ _ _ (fun c hyp v G1 H1 g1 w=>by
  obtain⟨k,e,qk⟩:=hyp;subst e;refine⟨k,zfK w,?_⟩;cases k with
  | false=>exact qk _ G1 H1 g1 (.sh (.sc rfl (.bl false)))
  | true=>exact⟨G0,ρ,G1,F.gr g1,h'.mono ρ _ _ (fun k q v G2 H2 g2=>q v G2 H2 (g1.trans g2)) qk⟩) q⟩⟩
def nil3:TA3:=fun _ Q=>Q []
def Zy(ta:TE3)(tr:TA3):TA3:=fun ρ Q=>ta ρ fun c=>tr ρ fun cs=>Q (c::cs)
theorem zb:PA3 X H0 [] nil3:=⟨fun ρ Q Q' h q=>h _ q,PA.imp jE fun σ H Q=>el5 fun G0 ρ G F q=>q [] G H (Gr.refl F.sub) .nil⟩
theorem za{es:#[54]}{ta:TE3}{tr:TA3}(ha:PE3 X H0 e ta)(hr:PA3 X H0 es tr)(hs:#[14]:=by rfl):PA3 X H0 (e::es) (Zy ta tr):=
 ⟨fun ρ Q Q' h q=>ha.mono ρ _ _ (fun c=>hr.mono ρ _ _ fun cs=>h _) q,PA.imp (jn ha.ok hr.ok hs) fun σ H Q=>el5 fun G0 ρ G F q=>
  ⟨G0,ρ,G,F,ha.mono ρ _ _ (fun c qc v G1 H1 g1 w1=>⟨G0,ρ,G1,F.gr g1,hr.mono ρ _ _ (fun cs k vs G2 H2 g2 w2=>k (v::vs) G2 H2 (g1.trans g2) (.cons (w1.gr g2) w2)) qc⟩) q⟩⟩
def tup3(t:TA3):TE3:=fun ρ Q=>t ρ fun cs=>optP (shs cs) fun p=>p.2.length<=sizeLine/\Q (.sh p.1 (.tuple p.2))
theorem zR{es:#[54]}{t:TA3}{x1}(h:PA3 X H0 es t):PE3 X H0 (.Tuple es x1 pos) (tup3 t):=
 ⟨fun ρ Q Q' hq q=>h.mono ρ _ _ (fun cs q=>by obtain⟨ds,e,z,q⟩:=zbC q;rw [e];exact⟨z,hq _ q⟩) q,PE.imp (zcK h.ok) fun σ H Q=>el5 fun G0 ρ G F q=>⟨G0,ρ,G,F,h.mono ρ _ _ (fun cs hyp vs G1 H1 g1 w=>by
  obtain⟨ds,e,z,k⟩:=zbC hyp;have r:=w.shs e;refine⟨by rw [r.length];exact z,fun p hp=>k (.ref p) (upd G1 p (.tup vs)) (upd H1 p (.tup vs)) (g1.trans (Gr.put g1.sub hp)) (.sh ⟨.tup (SqT.of zt) (rdvs_same (zT (g1.sub.free hp) _) r.rd),fun hf=>.tup zt (rdns_mono (zT (g1.sub.free hp) _) (fun _ _ _ z=>z) (r.nw hf))⟩)⟩) q⟩⟩
def lst3(t:TA3):TN3:=fun ρ Q=>t ρ fun cs=>optP (shs cs) fun p=>p.2.length<=sizeLine/\Q p.1 p.2
theorem jd{es:#[54]}{t:TA3}(h:PA3 X H0 es t):PN3 X H0 (.List es pos) (lst3 t):=
 ⟨fun ρ Q Q' hq q=>h.mono ρ _ _ (fun cs q=>by obtain⟨ds,e,z,q⟩:=zbC q;rw [e];exact⟨z,hq _ _ q⟩) q,PE.imp (zeV h.ok) fun σ H Q=>el5 fun G0 ρ G F q=>⟨G0,ρ,G,F,h.mono ρ _ _ (fun cs hyp vs G1 H1 g1 w=>by
  obtain⟨ds,e,z,k⟩:=zbC hyp;have r:=w.shs e;exact⟨by rw [r.length];exact z,fun p hp=>k p vs G1 H1 g1 hp r⟩) q⟩⟩
abbrev C3:=List Cl->(Bool->D->Prop)->Prop
def zjL(K:Ybf)(H0:Hp)(r:C3):List V->Hp->VK->Prop:=fun xs H Q=>∃ G cs,Sub G H/\Vws K H0 G H xs cs/\r cs fun f d=>∀ v G' H',Gr G H G' H'->Rf K H0 G' f v d->Q v H'
structure CallOk(X:Cx)(f:Value)(r:C3):Prop where
 mono:∀ cs (Q Q':Bool->D->Prop),(∀ f c,Q f c->Q' f c)->r cs Q->r cs Q'
 ok:∀ H0,zG X f (zjL X.K H0 r)
theorem zG.imp{f:Value}{r r':List V->Hp->VK->Prop}(h:zG X f r)(i:∀ xs H Q,r' xs H Q->r xs H Q):zG X f r':=fun pins s σ H xs us Q I rv q=>h pins s σ H xs us Q I rv (i _ _ _ q)
def cb3(r:C3)(t:TA3):TE3:=fun ρ Q=>t ρ fun cs=>r cs fun f d=>Q (.sh f d)
variable{x:Str}{p:Pos}{es:#[54]}{id T:String}
theorem zw{r:C3}{t:TA3}(hc:CallOk X (.builtin id) r)(hg:Gl X x)(hm:X.mg x=none)(hv:bootBuiltins x=some (.builtin id))(ha:PA3 X H0 (e::es) t)(hn:x≠"__name__":=by decide)(hdb:#[21]:=by decide)
 (he:#[14]:=by rfl) (hpl:(backTo pos #[46]).any (·.1)=false:=by rfl):PE3 X H0 #[30] (cb3 r t):=
 ⟨fun ρ Q Q' h q=>ha.mono ρ _ _ (fun cs=>hc.mono cs _ _ fun f d=>h _) q,PE.imp (JX (hc.ok H0) hg hm hv ha.ok hn hdb he hpl) fun σ H Q=>el5 fun G0 ρ G F q=>⟨G0,ρ,G,F,ha.mono ρ _ _ (fun cs qc vs G1 H1 g1 w=>⟨G1,cs,g1.sub,w,hc.mono cs _ _ (fun f d k v G' H' g r=>k v G' H' (g1.trans g) (.sh r)) qc⟩) q⟩⟩
theorem ziF{r:C3}{t:TA3}(hc:CallOk X (.type T) r)(hg:Gl X x)(hm:X.mg x=none)(hv:bootBuiltins x=some (.type T))(ha:PA3 X H0 (e::es) t)(hn:x≠"__name__":=by decide)(hdb:#[21]:=by decide)
 (he:#[14]:=by rfl) (hpl:(backTo pos #[46]).any (·.1)=false:=by rfl):PE3 X H0 #[30] (cb3 r t):=
 ⟨fun ρ Q Q' h q=>ha.mono ρ _ _ (fun cs=>hc.mono cs _ _ fun f d=>h _) q,PE.imp (ZY (hc.ok H0) hg hm hv ha.ok hn hdb he hpl) fun σ H Q=>el5 fun G0 ρ G F q=>⟨G0,ρ,G,F,ha.mono ρ _ _ (fun cs qc vs G1 H1 g1 w=>⟨G1,cs,g1.sub,w,hc.mono cs _ _ (fun f d k v G' H' g r=>k v G' H' (g1.trans g) (.sh r)) qc⟩) q⟩⟩
abbrev Sp3:=List D->(Bool->D->Prop)->(Addr->Prop)->Prop
def spL(K:Ybf)(sp:Sp3):Sp:=fun vs H Q E=>∃ G ds,Sub G H/\RdVs K G vs ds/\sp ds (fun f d=>∀ v G' H',Gr G H G' H'->Rf K H G' f v d->Q v H') fun C=>∀ H',zz H H'->E (.ref C) none H'
theorem zmY{K:Ybf}{G G':Hp}{v:V}{d:D}(h:zq d=true)(r:RdV K G v d):RdV K G' v d:=by
 cases r with
 | non=>exact .non
 | bl b=>exact .bl b
 | int i=>exact .int i
 | str s=>exact .str s
 | lst _ _=>cases h
 | tup _ _=>cases h
structure Df3(P:Program)(w:World)(K:Ybf)(mg:#[15])(base:Heap)(k:Nat)(x:Str)(ps:List Str)(sp:Sp3):Prop where
 mono:∀ ds (Q Q':Bool->D->Prop) (E E':Addr->Prop),(∀ f d,Q f d->Q' f d)->(∀ d,E d->E' d)->sp ds Q E->sp ds Q' E'
 ok:Df P w K mg base k x ps (spL K sp)
def Z2(sp:Sp3)(E:Addr->Prop)(t:TA3):TE3:=fun ρ Q=>t ρ fun cs=>cs.all Cl.dat=true/\sp (cs.map Cl.d) (fun f d=>((shs cs).isSome=true\/zq d=true)/\Q (.sh f d)) E
theorem zdJ:∀ {cs:List Cl} {p:Bool×List D},shs cs=some p->cs.map Cl.d=p.2
 | [],_,e=>by cases e;rfl
 | .sh _ d :: r, ds, e => by
  unfold shs at e;cases q:shs r with
  | none=>rw [q] at e;cases e
  | some es=>rw [q] at e;cases e;rw [Ya1,zdJ q];rfl
 | .ow _ _::r,_,e=>by cases e
 | .tr _ _::r,_,e=>by cases e
 | .dt _::r,_,e=>by cases e
 | .dk _::r,_,e=>by cases e
 | .fd _::r,_,e=>by cases e
 | .tk _::r,_,e=>by cases e
 | .dm _ _::r,_,e=>by cases e
 | .ex _::r,_,e=>by cases e
theorem df3{k:Nat}{ps:List Str}{sp:Sp3}{E:XK}{E3:Addr->Prop}{t:TA3}(hE:∀ C H',E3 C->zz H0 H'->E (.ref C) none H')(Gd:Df3 X.prog X.w X.K X.mg X.base k x ps sp)(hr:Room k X.A)(hg:Gl X x)(hx:Passes (CXR X.prog X.w) X E)(ha:PA3 X H0 (e::es) t)(hdb:#[21]:=by decide)
 (he:#[14]:=by rfl) (hpl:(backTo pos #[46]).any (·.1)=false:=by rfl):PE3 X H0 #[30] (Z2 sp E3 t):=by
 refine⟨fun ρ Q Q' h q=>ha.mono ρ _ _ (fun cs ⟨hd,q⟩=>⟨hd,Gd.mono _ _ _ _ _ (fun f d ⟨a,b⟩=>⟨a,h _ b⟩) (fun _ z=>z) q⟩) q,PE.imp (ZW Gd.ok hr hg hx ha.ok hdb he hpl) fun σ H Q=>el5 fun G0 ρ G F q=>⟨G0,ρ,G,F,ha.mono ρ _ _ (fun cs ⟨hd,qc⟩ vs G1 H1 g1 w=>?_) q⟩⟩
 show spL X.K sp (vs++[]) H1 Q E
 rw [Yao];have kE:∀ C,E3 C->∀ H',zz H1 H'->E (.ref C) none H':=fun C c H' s=>hE C H' c ((F.gr g1).keep.trans s)
 cases hs:shs cs with
 | some ds=>
  refine⟨G1,cs.map Cl.d,g1.sub,by rw [zdJ hs];exact(w.shs hs).rd,Gd.mono _ _ _ _ _ (fun f d ⟨_,k⟩ v G' H' g r=>k v G' H' (g1.trans g) (.sh ⟨r.rd,fun hf=>jM (Same.refl _) (fun _ _ _ z=>(F.gr g1).keep.free z) (r.nw hf)⟩)) kE qc⟩
 | none=>
  refine⟨cln H1,cs.map Cl.d,zdz H1,rdvs_cln (w.rds g1.sub hd),Gd.mono _ _ _ _ _ (fun f d ⟨s,k⟩ v G' H' g r=>?_) kE qc⟩
  have sc:zq d=true:=s.resolve_left (by rw [hs];simp)
  exact k v G1 H' (g1.trans ⟨Same.refl _,g.h,g1.sub.trans g.h,fun _ _ e=>.inl e⟩) (.sh (.sc sc (zmY sc r.rd)))
end
variable[LamW]
theorem cons_inv{K:Ybf}{G:Hp}{vs:List V}{d:D}{ds:List D}(r:RdVs K G vs (d::ds)):∃ v us,vs=v::us/\RdV K G v d/\RdVs K G us ds:=by
 cases r with
 | cons a b=>exact⟨_,_,rfl,a,b⟩
theorem zdA{K:Ybf}{G:Hp}{v:V}{ds:List D}(r:RdV K G v (.tuple ds)):∃ a xs,v=.ref a/\SqT K G a xs/\RdVs K G xs ds:=by
 cases r with
 | tup a b=>exact⟨_,_,rfl,a,b⟩
theorem zhR{K:Ybf}{G:Hp}{v:V}{ds:List D}(r:RdV K G v (.list ds)):∃ a xs,v=.ref a/\SqL K G a xs/\RdVs K G xs ds:=by
 cases r with
 | lst a b=>exact⟨_,_,rfl,a,b⟩
theorem zn{K:Ybf}{H0 G H:Hp}{v:V}{f:Bool}{d:D}(w:Vw K H0 G H v (.sh f d)):Rf K H0 G f v d:=by
 cases w with
 | sh r=>exact r
theorem znb{K:Ybf}{H0 G:Hp}{f:Bool}{vs:List V}{d:D}{ds:List D}(r:Rfs K H0 G f vs (d::ds)):∃ v us,vs=v::us/\Rf K H0 G f v d/\Rfs K H0 G f us ds:=by
 obtain⟨v,us,rfl,a,b⟩:=cons_inv r.rd;exact⟨v,us,rfl,⟨a,fun h=>by cases r.nw h with|cons x y=>exact x⟩,⟨b,fun h=>by cases r.nw h with|cons x y=>exact y⟩⟩
theorem Zm{K:Ybf}{H0 G:Hp}{f:Bool}{v:V}{ds:List D}(r:Rf K H0 G f v (.tuple ds)):∃ a xs,v=.ref a/\SqT K G a xs/\Rfs K H0 G f xs ds:=by
 cases f with
 | false=>
  obtain⟨a,xs,rfl,h,rs⟩:=zdA r.rd;exact⟨a,xs,rfl,h,rs,fun h=>by cases h⟩
 | true=>
  have n:=r.nw rfl;cases n with
  | tup h rs=>exact⟨_,_,rfl,SqT.of h,rdns_rd rs,fun _=>rs⟩
theorem Zc{K:Ybf}{H0 G:Hp}{f:Bool}{v:V}{ds:List D}(r:Rf K H0 G f v (.list ds)):∃ a xs,v=.ref a/\SqL K G a xs/\Rfs K H0 G f xs ds:=by
 cases f with
 | false=>
  obtain⟨a,xs,rfl,h,rs⟩:=zhR r.rd;exact⟨a,xs,rfl,h,rs,fun h=>by cases h⟩
 | true=>
  have n:=r.nw rfl;cases n with
  | lst h _ rs=>exact⟨_,_,rfl,SqL.of h,rdns_rd rs,fun _=>rs⟩
section
variable{X:Cx}{H0:Hp}{e a b c:Expr}{pos:Pos}{st:Stmt}{rest:List Stmt}
def next3:TS3:=fun A ρ=>A.nx ρ
def seq3(t u:TS3):TS3:=fun A ρ=>t { A with nx:=u A } ρ
theorem zu:PSs3 X H0 [] next3:=PSs.imp zfV fun B σ H=>el7 fun G0 A ρ G F q L=>L.nx ρ σ G H F q
theorem zc{t u:TS3}(h1:PS3 X H0 st t)(h2:PSs3 X H0 rest u):PSs3 X H0 (st::rest) (seq3 t u):=PSs.imp (za1 h1 h2) fun B σ H=>el7 fun G0 A ρ G F q L=>
 ⟨G0,{ A with nx:=u A },ρ,G,F,q,⟨fun ρ' σ' G' H' F' q'=>⟨G0,A,ρ',G',F',q',L⟩,L.rt,L.bk,L.ct,L.rm⟩⟩
theorem ze{t:TS3}(h1:PS3 X H0 st t):PSs3 X H0 [st] t:=zhw h1
def ZH(te:TE3):TS3:=fun A ρ=>te ρ fun _=>A.nx ρ
theorem Zz{te:TE3}(he:PE3 X H0 e te)(hs:swapsWith e none pos.line X.env=pure false:=by rfl):PS3 X H0 (.Expr e pos) (ZH te):=PS.imp (Za he.ok hs) fun B σ H=>el7 fun G0 A ρ G F q L=>
 ⟨G0,ρ,G,F,he.mono ρ _ _ (fun c q v G' H' g w=>L.nx ρ σ G' H' (F.gr g) q) q⟩
def ret3(te:TE3):TS3:=fun A ρ=>te ρ fun c=>asS c A.rt
theorem zp{te:TE3}(he:PE3 X H0 e te):PS3 X H0 (.Return (some e) pos) (ret3 te):=PS.imp (zcc he.ok) fun B σ H=>el7 fun G0 A ρ G F q L=>
 ⟨G0,ρ,G,F,he.mono ρ _ _ (fun c hyp v G' H' g w=>by
  obtain⟨f,d,hc,q⟩:=jV hyp;subst hc;exact L.rt f d v G' H' (F.gr g).gr0 (zn w) q) q⟩
def ifS3(t:TT3)(u v:TS3):TS3:=fun A ρ=>t ρ fun k=>if k=true then u A ρ else v A ρ
theorem s_if{xs ys:List Stmt}{t:TT3}{u v:TS3}(hc:PT3 X H0 c t)(ha:PSs3 X H0 xs u)(hb:PSs3 X H0 ys v):PS3 X H0 (.If c xs ys pos) (ifS3 t u v):=PS.imp (zfD hc.ok ha hb) fun B σ H=>el7 fun G0 A ρ G F q L=>
 ⟨G0,ρ,G,F,hc.mono ρ _ _ (fun k q G' H' g=>by
  cases k with
  | true=>exact⟨G0,A,ρ,G',F.gr g,q,L⟩
  | false=>exact⟨G0,A,ρ,G',F.gr g,q,L⟩) q⟩
def set3(i:Nat)(te:TE3):TS3:=fun A ρ=>te ρ fun c=>asS c fun f d=>A.nx (ρ.set i (some (.sh f d)))
theorem zi{i:Nat}{x:Str}{te:TE3}{pos':Pos}(hN:X.N.Nodup)(hi:X.N[i]?=some x)(hx:#[60])(he:PE3 X H0 e te)(hs:swapsWith e (some (.Name x pos')) pos.line X.env=pure false:=by rfl)
 (hf:#[20]:=by first|exact .inl rfl|exact .inr rfl|assumption):PS3 X H0 (.Assign [.Name x pos'] e pos) (set3 i te):=PS.imp (JU hN hi hx he.ok hs hf) fun B σ H=>el7 fun G0 A ρ G F q L=>
 ⟨G0,ρ,G,F,he.mono ρ _ _ (fun c hyp v G' H' g w=>by
  obtain⟨f,d,hc,q⟩:=jV hyp;subst hc;exact L.nx _ _ G' H' ((F.gr g).set (zn w)) q) q⟩
def own3(i:Nat)(tn:TN3):TS3:=fun A ρ=>tn ρ fun f ds=>A.nx (ρ.set i (some (.ow f ds)))
theorem jH{i:Nat}{x:Str}{tn:TN3}{pos':Pos}(hN:X.N.Nodup)(hi:X.N[i]?=some x)(hx:#[60])(he:PN3 X H0 e tn)(hs:swapsWith e (some (.Name x pos')) pos.line X.env=pure false:=by rfl)
 (hf:#[20]:=by first|exact .inl rfl|exact .inr rfl|assumption):PS3 X H0 (.Assign [.Name x pos'] e pos) (own3 i tn):=PS.imp (JU hN hi hx he.ok hs hf) fun B σ H=>el7 fun G0 A ρ G F q L=>
 ⟨G0,ρ,G,F,he.mono ρ _ _ (fun f ds q l vs G' H' g hl r=>L.nx _ _ G' _ ((F.gr g).own r hl) q) q⟩
abbrev TG3:=Bool->D->Env3->(Env3->Prop)->Prop
abbrev TGs3:=Bool->List D->Env3->(Env3->Prop)->Prop
def JV(K:Ybf)(H0:Hp)(g:TG3):TG:=fun v σ H Q=>∃ G0 ρ G f d,Fr3 K H0 G0 ρ σ G H/\Rf K H0 G f v d/\g f d ρ fun ρ'=>∀ σ' G' H',Fr3 K H0 G0 ρ' σ' G' H'->Same G G'->Gr G H G' H'->Q σ' H'
def ziu(K:Ybf)(H0:Hp)(g:TGs3):TGs:=fun vs σ H Q=>∃ G0 ρ G f ds,Fr3 K H0 G0 ρ σ G H/\Rfs K H0 G f vs ds/\g f ds ρ fun ρ'=>∀ σ' G' H',Fr3 K H0 G0 ρ' σ' G' H'->Same G G'->Gr G H G' H'->Q σ' H'
structure PG3(X:Cx)(H0:Hp)(tg:Expr)(g:TG3):Prop where
 mono:∀ f d ρ (Q Q':Env3->Prop),(∀ c,Q c->Q' c)->g f d ρ Q->g f d ρ Q'
 ok:PG X tg (JV X.K H0 g)
structure PGs3(X:Cx)(H0:Hp)(tg:#[54])(g:TGs3):Prop where
 mono:∀ f d ρ (Q Q':Env3->Prop),(∀ c,Q c->Q' c)->g f d ρ Q->g f d ρ Q'
 ok:PGs X tg (ziu X.K H0 g)
theorem PG.imp{tg:Expr}{t t':TG}(h:PG X tg t)(i:∀ v σ H Q,t' v σ H Q->t v σ H Q):PG X tg t':=fun pins s σ H v u Q I r q=>h pins s σ H v u Q I r (i _ _ _ _ q)
theorem PGs.imp{tg:#[54]}{t t':TGs}(h:PGs X tg t)(i:∀ v σ H Q,t' v σ H Q->t v σ H Q):PGs X tg t':=fun pins s σ H v u Q I r q=>h pins s σ H v u Q I r (i _ _ _ _ q)
def gn3(i:Nat):TG3:=fun f d ρ Q=>Q (ρ.set i (some (.sh (f||zq d) d)))
theorem zg{i:Nat}{x:Str}(hN:X.N.Nodup)(hi:X.N[i]?=some x)(hx:#[60])(hf:#[20]:=by first|exact .inl rfl|exact .inr rfl|assumption):PG3 X H0 (.Name x pos) (gn3 i):=
 ⟨fun f d ρ Q Q' h q=>h _ q,PG.imp (zfH hN hi hx hf) fun v σ H Q ⟨G0,ρ,G,f,d,F,r,q⟩=>q _ G H (F.set r.or) (Same.refl _) (Gr.refl F.sub)⟩
def gnil3:TGs3:=fun _ ds ρ Q=>nilP ds (Q ρ)
def JS(t:TG3)(u:TGs3):TGs3:=fun f ds ρ Q=>Jt ds fun d r=>t f d ρ fun ρ'=>u f r ρ' Q
theorem zV:PGs3 X H0 [] gnil3:=
 ⟨fun f d ρ Q Q' h q=>by obtain⟨e,q⟩:=zfJ q;subst e;exact h _ q,PGs.imp zkf fun vs σ H Q hyp=>by
  obtain⟨G0,ρ,G,f,ds,F,r,q⟩:=hyp;obtain⟨e,q⟩:=zfJ q;subst e;cases r.rd;exact⟨rfl,q σ G H F (Same.refl _) (Gr.refl F.sub)⟩⟩
theorem zy{es:#[54]}{t:TG3}{u:TGs3}(h1:PG3 X H0 e t)(h2:PGs3 X H0 es u)(hs:(assignEach (e::es) X.env).map (·.2)=assign e X.env::(assignEach es X.env).map (·.2):=by rfl):PGs3 X H0 (e::es) (JS t u):=
 ⟨fun f d ρ Q Q' h q=>by obtain⟨x,r,e,q⟩:=zdG q;subst e;exact h1.mono f x ρ _ _ (fun ρ'=>h2.mono f r ρ' _ _ h) q,PGs.imp (zhU h1.ok h2.ok hs) fun vs σ H Q hyp=>by
  obtain⟨G0,ρ,G,f,ds,F,r,q⟩:=hyp;obtain⟨x,y,e,q⟩:=zdG q;subst e;obtain⟨v,us,rfl,r1,r2⟩:=znb r;exact⟨v,us,rfl,G0,ρ,G,f,x,F,r1,h1.mono f x ρ _ _ (fun ρ' q σ1 G1 H1 F1 s1 g1=>⟨G0,ρ',G1,f,y,F1,r2.same s1,h2.mono f y ρ' _ _ (fun ρ2 q σ2 G2 H2 F2 s2 g2=>q σ2 G2 H2 F2 (s1.trans s2) (g1.trans g2)) q⟩) q⟩⟩
def zaO(n:Nat)(t:TGs3):TG3:=fun f d ρ Q=>asT d fun ds=>ds.length=n/\t f ds ρ Q
theorem zW{es:#[54]}{k:Nat}{t:TGs3}{n:Nat}(hc:X.calm=true)(h:PGs3 X H0 es t)(hn:(assignEach es X.env).length=n:=by rfl)(hst:(assignEach es X.env).findIdx? (·.1)=none:=by rfl):PG3 X H0 (.Tuple es k pos) (zaO n t):=
 ⟨fun f d ρ Q Q' hq q=>by obtain⟨ds,e,l,q'⟩:=J9 q;subst e;exact⟨l,h.mono f ds ρ _ _ hq q'⟩,PG.imp (zjk hc h.ok hn hst) fun v σ H Q hyp=>by
  obtain⟨G0,ρ,G,f,d,F,r,q⟩:=hyp;obtain⟨ds,e,l,q'⟩:=J9 q;subst e;obtain⟨a,xs,rfl,hq,rs⟩:=Zm r;exact⟨a,xs,rfl,F.sub.tup hq,by rw [rs.length];exact l,G0,ρ,G,f,ds,F,rs,q'⟩⟩
def asg3(te:TE3)(g:TG3):TS3:=fun A ρ=>te ρ fun c=>asS c fun f d=>g f d ρ A.nx
theorem zbf{tg:Expr}{te:TE3}{g:TG3}(he:PE3 X H0 e te)(hg:PG3 X H0 tg g)(hs:swapsWithSole [tg] e pos.line X.env=pure false:=by rfl)(hw:swappedStores [tg] e X.env=pure none:=by rfl)
 (h1:(assignEach [tg] X.env).map (·.2)=[assign tg X.env]:=by rfl):PS3 X H0 (.Assign [tg] e pos) (asg3 te g):=PS.imp (zfi he.ok hg.ok hs hw h1) fun B σ H=>el7 fun G0 A ρ G F q L=>
 ⟨G0,ρ,G,F,he.mono ρ _ _ (fun c hyp v G' H' g' w=>by
  obtain⟨f,d,hc,q⟩:=jV hyp;subst hc;exact⟨G0,ρ,G',f,d,F.gr g',zn w,hg.mono f d ρ _ _ (fun ρ2 q σ2 G2 H2 F2 _ _=>L.nx ρ2 σ2 G2 H2 F2 q) q⟩) q⟩
theorem zb4{K:Ybf}{G0:Hp}{ρ : Env3}{σ : L2.St}{G H:Hp}{i:Nat}{f:Bool}{ds:List D}(F:#[26])(h:ρ[i]?=some (some (.ow f ds))):∃ l vs,σ[i]?=some (some (.ref l))/\H l=some (.lst vs)/\Rfs K H0 G f vs ds:=by
 obtain⟨v,h1,h2⟩:=F.slot i _ h;cases h2 with
 | ow hh r n=>exact⟨_,_,h1,hh,r⟩
def app3(i:Nat)(te:TE3):TS3:=fun A ρ=>atO ρ[i]? fun f ds=>te ρ fun c=>asS c fun g d=>ds.length<sizeLine/\A.nx (ρ.set i (some (.ow (f&&g) (ds++[d]))))
theorem jZ{i:Nat}{te:TE3}{x:Str}{np apos cpos:Pos}(hN:X.N[i]?=some x)(hv:Vis X.env.scope x)(he:PE3 X H0 e te)(hd:#[21]:=by decide)(hcd:#[27]:=by decide)
 (hb:attributeBase #[36] "append" X.env (eval #[36] X.env)=eval #[36] X.env:=by rfl)
 (hf:((backTo cpos (starEach [e] X.env)).all (fun x=>!x.1)&&(backToKw cpos (keywordEach [] X.env)).all (fun x=>x.1.isSome)&&decide ([e].length+([]:List Keyword).length+(if([]:List Keyword).isEmpty then 0 else 1)<30))=true:=by rfl)
 (hl:(apos.endLine==cpos.line)=true:=by rfl) (hs:starEach [e] X.env=(false,eval e X.env)::starEach [] X.env:=by rfl) (hp:(backTo cpos #[65]).any (·.1)=false:=by rfl)
 (hw:swapsWith (.Call (.Attribute #[36] "append" apos) [e] [] cpos) none pos.line X.env=pure false:=by rfl):PS3 X H0 (.Expr (.Call (.Attribute #[36] "append" apos) [e] [] cpos) pos) (app3 i te):=by
 refine PS.imp (Za (zcZ (jC hN hv hd hcd) (jn he.ok jE hs) hb hf hl hs hp) hw) fun B σ H hyp=>?_
 obtain⟨G0,A,ρ,G,F,q,L⟩:=hyp;obtain⟨f,ds,hi,q⟩:=zfG q;obtain⟨l,vs,h1,h2,r⟩:=zb4 F hi;refine⟨.ref l,h1,zbi h2,G0,ρ,G,F,he.mono ρ _ _ (fun c q v G' H' g w=>?_) q⟩
 obtain⟨f',d,hc,hz,q'⟩:=jV q;subst hc;exact⟨l,vs,v,rfl,rfl,g.h.at h2,by rw [r.length];exact hz,L.nx _ _ _ _ ((F.gr g).change hi h1 ((r.same g.g).snoc (zn w))) q'⟩
def put3(i:Nat)(tk te:TE3):TS3:=fun A ρ=>atO ρ[i]? fun f ds=>te ρ fun c=>tk ρ fun k=>asS c fun g d=>asI k fun n=>∃ j,ixN ds.length n=some j/\A.nx (ρ.set i (some (.ow (f&&g) (ds.set j d))))
theorem zcE{i:Nat}{tk te:TE3}{x:Str}{np spos:Pos}{k:Expr}(hN:X.N[i]?=some x)(hv:Vis X.env.scope x)(hk:PE3 X H0 k tk)(he:PE3 X H0 e te)(hd:#[21]:=by decide)(hcd:#[27]:=by decide)
 (hs:swapsWithSole [.Subscript #[36] k spos] e pos.line X.env=pure false:=by rfl) (hw:swappedStores [.Subscript #[36] k spos] e X.env=pure none:=by rfl)
 (h1:(assignEach [.Subscript #[36] k spos] X.env).map (·.2)=[assign (.Subscript #[36] k spos) X.env]:=by rfl)
 (ha:∀ v,assign (.Subscript #[36] k spos) X.env v=(do
  let ov <-holding [v] (eval #[36] X.env)
  let iv <-holding [v,ov] (eval k X.env)
  standAt spos
  holding [v,ov,iv] (setItem ov iv v)
  release [v,ov,iv] []):=by intro _;rfl):PS3 X H0 (.Assign [.Subscript #[36] k spos] e pos) (put3 i tk te):=by
 refine PS.imp (zfi he.ok (zl8 (jC hN hv hd hcd) hk.ok zkP ha) hs hw h1) fun B σ H hyp=>?_
 obtain⟨G0,A,ρ,G,F,q,L⟩:=hyp;obtain⟨f,ds,hi,q⟩:=zfG q;refine⟨G0,ρ,G,F,he.mono ρ _ _ (fun c qc v G1 H1 g1 w1=>?_) q⟩
 obtain⟨l,vs,h1,h2,r⟩:=zb4 F hi;refine⟨.ref l,h1,G0,ρ,G1,F.gr g1,hk.mono ρ _ _ (fun kc q kv G2 H2 g2 w2=>?_) qc⟩
 obtain⟨f',d,hc,q1⟩:=jV q;obtain⟨n,hn,j,hj,q'⟩:=jy q1;subst hc hn;have rk:=(zn w2).rd;cases rk;refine⟨l,vs,n,j,rfl,rfl,g2.h.at (g1.h.at h2),by rw [r.length];exact hj,L.nx _ _ _ _ (((F.gr g1).gr g2).change hi h1 ((r.same (g1.g.trans g2.g)).set ((zn w1).same g2.g) j)) q'⟩
def frz1(i:Nat)(ρ : Env3):Env3:=match ρ[i]? with
 | some (some (.ow f ds))=>ρ.set i (some (.sh f (.list ds)))
 | some (some (.tr _ ms))=>ρ.set i (some (.sh true (.list (ms.map PyData.list))))
 | _=>ρ
def frz:List Nat->Env3->Env3
 | [],ρ=>ρ
 | i::r,ρ=>frz r (frz1 i ρ)
theorem Fr3.frz1{K:Ybf}{G0:Hp}{ρ : Env3}{σ : L2.St}{G H:Hp}(F:#[26])(i:Nat):∃ G',Same G G'/\Fr3 K H0 G0 (L3.frz1 i ρ) σ G' H:=by
 unfold L3.frz1
 split
 . rename_i f ds h;exact F.freeze h
 . rename_i ps ms h;exact F.freezeT h
 . exact⟨G,Same.refl _,F⟩
theorem Fr3.frz{K:Ybf}{G0:Hp}{σ : L2.St}{H:Hp}:∀ (is:List Nat) {ρ : Env3} {G:Hp},Fr3 K H0 G0 ρ σ G H->∃ G',Same G G'/\Fr3 K H0 G0 (L3.frz is ρ) σ G' H
 | [],ρ,G,F=>⟨G,Same.refl _,F⟩
 | i :: r, ρ, G, F => by
  obtain⟨G1,s1,F1⟩:=F.frz1 i;obtain⟨G2,s2,F2⟩:=Fr3.frz r F1;exact⟨G2,s1.trans s2,F2⟩
def frzS(is:List Nat)(t:TS3):TS3:=fun A ρ=>t A (frz is ρ)
theorem jG(is:List Nat){t:TS3}(h:PS3 X H0 st t):PS3 X H0 st (frzS is t):=PS.imp h fun B σ H=>el7 fun G0 A ρ G F q L=>by
 obtain⟨G',s',F'⟩:=F.frz is;exact⟨G0,A,frz is ρ,G',F',q,L⟩
def whN(c:TT3)(tb:TS3)(A:Ends3):Nat->Env3->Prop
 | 0,_=>False
 | n+1,ρ=>c ρ fun k=>if k=true then tb { A with nx:=whN c tb A n,ct:=whN c tb A n,bk:=A.nx } ρ else A.nx ρ
def zlg(c:TT3)(tb:TS3):TS3:=fun A ρ=>∃ n,whN c tb A n ρ
theorem ZK{body:List Stmt}{tc:TT3}{tb:TS3}(hp:PassesOwn #[12] X.A X.env X.xe)(hc:PT3 X H0 c tc)(hb:PSs3 X H0 body tb):PS3 X H0 (.While c body [] pos) (zlg tc tb):=PS.imp (zhV hp hc.ok hb) fun B σ H hyp=>by
 obtain⟨G0,A,ρ,G,F,⟨n,q⟩,L⟩:=hyp;refine⟨fun m σ' H'=>∃ ρ' G',Fr3 X.K H0 G0 ρ' σ' G' H'/\whN tc tb A m ρ',⟨n,ρ,G,F,q⟩,?_⟩
 rintro m σ' H' ⟨ρ',G',F',q'⟩
 cases m with
 | zero=>exact q'.elim
 | succ m=>
  refine⟨G0,ρ',G',F',hc.mono ρ' _ _ (fun k q G2 H2 g=>?_) q'⟩
  cases k with
  | false=>exact L.nx ρ' σ' G2 H2 (F'.gr g) q
  | true=>
   exact⟨fun σ3 H3=>∃ ρ3 G3,Fr3 X.K H0 G0 ρ3 σ3 G3 H3/\whN tc tb A m ρ3,fun σ3 H3 h3=>⟨m,Wa1 _,h3⟩,
    G0,_,ρ',G2,F'.gr g,q,⟨fun ρ4 σ4 G4 H4 F4 q4=>⟨ρ4,G4,F4,q4⟩,L.rt,L.nx,fun ρ4 σ4 G4 H4 F4 q4=>⟨ρ4,G4,F4,q4⟩,L.rm⟩⟩
structure ItOk(K:Ybf)(H0:Hp)(J:It)(fl:Bool)(ds:List D)(Gs:Hp):Prop where
 go:∀ (i:Nat) d G H,ds[i]?=some d->Same Gs G->Sub G H->J.go i H/\∀ x H',J.yld i H x H'->∃ G',Gr G H G' H'/\Rf K H0 G' fl x d
 stop:∀ (i:Nat) G H,i=ds.length->Same Gs G->Sub G H->J.stop i H
abbrev TI3:=Env3->(Bool->List D->Prop)->Prop
def Zx(K:Ybf)(H0:Hp)(t:TI3):TI:=fun σ H R=>∃ G0 ρ G,Fr3 K H0 G0 ρ σ G H/\t ρ fun f ds=>∀ J G' H',Gr G H G' H'->ItOk K H0 J f ds G'->R J H'
structure PI3(X:Cx)(H0:Hp)(tg iter:Expr)(t:TI3):Prop where
 mono:∀ ρ (Q Q':Bool->List D->Prop),(∀ f c,Q f c->Q' f c)->t ρ Q->t ρ Q'
 ok:PI X tg iter (Zx X.K H0 t)
def forL(g:TG3)(tb:TS3)(A:Ends3)(f:Bool):List D->Env3->Prop
 | [],ρ=>A.nx ρ
 | d::ds,ρ=>g f d ρ fun ρ'=>tb { A with nx:=forL g tb A f ds,ct:=forL g tb A f ds,bk:=A.nx } ρ'
def for3(ti:TI3)(g:TG3)(tb:TS3):TS3:=fun A ρ=>ti ρ fun f ds=>forL g tb A f ds ρ
theorem zC{tg iter:Expr}{body:List Stmt}{ti:TI3}{g:TG3}{tb:TS3}(hp:PassesOwn #[12] X.A X.env X.xe)(hc:X.calm=true)(hi:PI3 X H0 tg iter ti)(hg:PG3 X H0 tg g)(hb:PSs3 X H0 body tb)
 (hs:∀ x,foldedSetIterable iter X.env x=pure x:=by intro _;rfl):PS3 X H0 (.For tg iter body [] pos) (for3 ti g tb):=PS.imp (zh4 hp hc hi.ok hg.ok hb hs) fun B σ H=>el7 fun G0 A ρ G F q L=>by
 refine⟨G0,ρ,G,F,hi.mono ρ _ _ (fun f ds k J G1 H1 g1 ok=>?_) q⟩
 have B1:Fr3 X.K H0 G0 ρ σ G1 H1:=F.gr g1;refine⟨fun i m σ' H'=>i<=ds.length/\m=ds.length - i/\∃ ρ' G',Fr3 X.K H0 G1 ρ' σ' G' H'/\forL g tb A f (ds.drop i) ρ',⟨ds.length,WbF _,rfl,ρ,G1,B1.rebase,k⟩,?_⟩
 rintro i m σ' H' ⟨hil,rfl,ρ',G',F',k'⟩
 by_cases hlt:i<ds.length
 . right
   have hd:ds[i]?=some ds[i]:=YaQ hlt;obtain⟨hgo,hy⟩:=ok.go i _ G' H' hd F'.g0 F'.sub;rw [Wag hlt] at k';refine⟨hgo,fun σ2 H2=>∃ ρ2 G2,Fr3 X.K H0 G1 ρ2 σ2 G2 H2/\forL g tb A f (ds.drop (i+1)) ρ2,fun σ2 H2 h2=>⟨_,Nat.sub_lt_sub_left hlt (Wa1 _),Nat.succ_le_of_lt hlt,rfl,h2⟩,fun x H2 y=>?_⟩
   obtain⟨G2,g2,r2⟩:=hy x H2 y;refine⟨G1,ρ',G2,f,_,F'.gr g2,r2,hg.mono f _ ρ' _ _ (fun ρ3 q3 σ3 G3 H3 F3 _ _=>⟨G1,_,ρ3,G3,F3,q3,?_⟩) k'⟩
   exact⟨fun ρ4 σ4 G4 H4 F4 q4=>⟨ρ4,G4,F4,q4⟩,fun f d v G4 H4 g4 r4 q4=>L.rt f d v G4 H4 (g4.back B1) r4 q4,fun ρ4 σ4 G4 H4 F4 q4=>L.nx ρ4 σ4 G4 H4 (F4.back B1) q4,fun ρ4 σ4 G4 H4 F4 q4=>⟨ρ4,G4,F4,q4⟩,fun c v ρ4 σ4 G4 H4 F4 w4 n4 q4=>L.rm c v ρ4 σ4 G4 H4 (F4.back B1) w4 n4 q4⟩
 . left
   have e:i=ds.length:=Nat.le_antisymm hil (WbK.mp hlt);rw [e,List.drop_length] at k';exact⟨ok.stop i G' H' e F'.g0 F'.sub,L.nx ρ' σ' G' H' (F'.back B1) k'⟩
theorem PI.imp{tg iter:Expr}{t t':TI}(h:PI X tg iter t)(i:∀ σ H R,t' σ H R->t σ H R):PI X tg iter t':=fun pins s σ H R I q=>h pins s σ H R I (i _ _ _ q)
def itL(te:TE3):TI3:=fun ρ Q=>te ρ fun c=>asL c Q
def itT(te:TE3):TI3:=fun ρ Q=>te ρ fun c=>∃ f ds,c=.sh f (.tuple ds)/\Q f ds
theorem ziR{K:Ybf}{H0 G:Hp}{a:Addr}{xs:List V}{f:Bool}{ds:List D}(hq:SqL K G a xs)(r:Rfs K H0 G f xs ds):ItOk K H0 (Itl K a) f ds G where
 go:=fun i d G' H hd s1 s2=>by
  obtain⟨x,hx,rx⟩:=r.get hd;refine⟨⟨xs,x,(s1.trans s2.s).seq hq,hx⟩,fun y H' ⟨e,hy⟩=>?_⟩
  subst e;have:=hy xs ((s1.trans s2.s).seq hq);rw [hx] at this;cases this;exact⟨G',Gr.refl s2,rx.same s1⟩
 stop:=fun i G' H hl s1 s2=>⟨xs,(s1.trans s2.s).seq hq,by rw [r.length,hl];exact YaY _⟩
theorem zjy{K:Ybf}{H0 G:Hp}{a:Addr}{xs:List V}{f:Bool}{ds:List D}(hq:SqT K G a xs)(r:Rfs K H0 G f xs ds):ItOk K H0 (Itt K a) f ds G where
 go:=fun i d G' H hd s1 s2=>by
  obtain⟨x,hx,rx⟩:=r.get hd;refine⟨⟨xs,x,(s1.trans s2.s).tup hq,hx⟩,fun y H' ⟨e,hy⟩=>?_⟩
  subst e;have:=hy xs ((s1.trans s2.s).tup hq);rw [hx] at this;cases this;exact⟨G',Gr.refl s2,rx.same s1⟩
 stop:=fun i G' H hl s1 s2=>⟨xs,(s1.trans s2.s).tup hq,by rw [r.length,hl];exact YaY _⟩
theorem zH{tg iter:Expr}{te:TE3}(h:PE3 X H0 iter te):PI3 X H0 tg iter (itL te):=
 ⟨fun ρ Q Q' hq q=>h.mono ρ _ _ (fun c q=>by obtain⟨f,ds,e,q⟩:=zdh q;subst e;exact hq _ _ q) q,PI.imp (zjQ h.ok) fun σ H R=>el5 fun G0 ρ G F q=>⟨G0,ρ,G,F,h.mono ρ _ _ (fun c hyp v G' H' g w=>by
  obtain⟨f,ds,e,k⟩:=zdh hyp;subst e;obtain⟨a,xs,rfl,hq,rs⟩:=Zc (zn w);exact⟨a,rfl,⟨xs,g.sub.seq hq⟩,k _ G' H' g (ziR hq rs)⟩) q⟩⟩
theorem ziA{tg iter:Expr}{te:TE3}(h:PE3 X H0 iter te):PI3 X H0 tg iter (itT te):=
 ⟨fun ρ Q Q' hq q=>h.mono ρ _ _ (fun c ⟨f,ds,e,q⟩=>⟨f,ds,e,hq _ _ q⟩) q,PI.imp (zid h.ok) fun σ H R=>el5 fun G0 ρ G F q=>⟨G0,ρ,G,F,h.mono ρ _ _ (fun c hyp v G' H' g w=>by
  obtain⟨f,ds,e,k⟩:=hyp;subst e;obtain⟨a,xs,rfl,hq,rs⟩:=Zm (zn w);exact⟨a,rfl,⟨xs,g.sub.tup hq⟩,k _ G' H' g (zjy hq rs)⟩) q⟩⟩
def nums(lo:Int)(n:Nat):List D:=(List.range n).map fun i=>.int (lo+(i:Nat))
def j8(lo st:Int)(n:Nat):List D:=(List.range n).map fun i=>.int (lo+(i:Nat)*st)
theorem zeC{K:Ybf}{H0 G:Hp}{lo:Int}{n:Nat}:ItOk K H0 (Itr lo n) true (nums lo n) G where
 go:=fun i d G' H hd s1 s2=>by
  unfold nums at hd;rw [Ya0] at hd
  by_cases hi:i<n
  . rw [Yax hi] at hd
    cases hd;exact⟨hi,fun x H' ⟨e1,e2⟩=>by subst e1 e2;exact⟨G',Gr.refl s2,.sc rfl (.int _)⟩⟩
  . rw [WaB (by simpa using hi)] at hd;cases hd
 stop:=fun i G' H hl s1 s2=>by unfold nums at hl;show n<=i;simp at hl;omega
theorem zmf{K:Ybf}{H0 G:Hp}{lo st:Int}{n:Nat}:ItOk K H0 (Its lo st n) true (j8 lo st n) G where
 go:=fun i d G' H hd s1 s2=>by
  unfold j8 at hd;rw [Ya0] at hd
  by_cases hi:i<n
  . rw [Yax hi] at hd
    cases hd;exact⟨hi,fun x H' ⟨e1,e2⟩=>by subst e1 e2;exact⟨G',Gr.refl s2,.sc rfl (.int _)⟩⟩
  . rw [WaB (by simpa using hi)] at hd;cases hd
 stop:=fun i G' H hl s1 s2=>by unfold j8 at hl;show n<=i;simp at hl;omega
theorem zB{K:Ybf}{G:Hp}{v:V}{i:Int}(r:RdV K G v (.int i)):v=.int i:=by cases r;rfl
theorem vws1{K:Ybf}{H0 G H:Hp}{vs:List V}{c:Cl}(w:Vws K H0 G H vs [c]):∃ v,vs=[v]/\Vw K H0 G H v c:=by
 cases w with
 | cons a b=>cases b;exact⟨_,rfl,a⟩
theorem vws2{K:Ybf}{H0 G H:Hp}{vs:List V}{c d:Cl}(w:Vws K H0 G H vs [c,d]):∃ v u,vs=[v,u]/\Vw K H0 G H v c/\Vw K H0 G H u d:=by
 cases w with
 | cons a b=>obtain⟨u,rfl,h⟩:=vws1 b;exact⟨_,_,rfl,a,h⟩
theorem vws3{K:Ybf}{H0 G H:Hp}{vs:List V}{c d f:Cl}(w:Vws K H0 G H vs [c,d,f]):∃ v u z,vs=[v,u,z]/\Vw K H0 G H v c/\Vw K H0 G H u d/\Vw K H0 G H z f:=by
 cases w with
 | cons a b=>obtain⟨u,z,rfl,h,h'⟩:=vws2 b;exact⟨_,_,_,rfl,a,h,h'⟩
def rg1(t:TA3):TI3:=fun ρ Q=>t ρ fun cs=>∃ j,cs=[.sh true (.int j)]/\(-(2 ^ 62)<=j/\j<2 ^ 62)/\Q true (nums 0 j.toNat)
def rg2(t:TA3):TI3:=fun ρ Q=>t ρ fun cs=>∃ i j,cs=[.sh true (.int i),.sh true (.int j)]/\(-(2 ^ 62)<=i/\i<2 ^ 62/\-(2 ^ 62)<=j/\j<2 ^ 62)/\Q true (nums i (j - i).toNat)
theorem jh{tg a:Expr}{t:TA3}{p:Pos}(hg:Gl X "range")(hm:X.mg "range" = none)(ha:PA3 X H0 [a] t)(hs:starEach [a] X.env=[#[42]]:=by rfl):PI3 X H0 tg (.Call (.Name "range" p) [a] [] pos) (rg1 t):=
 ⟨fun ρ Q Q' hq q=>ha.mono ρ _ _ (fun c ⟨j,e,b,q⟩=>⟨j,e,b,hq _ _ q⟩) q,PI.imp (zjb hg hm ha.ok hs) fun σ H R=>el5 fun G0 ρ G F q=>⟨G0,ρ,G,F,ha.mono ρ _ _ (fun c hyp vs G' H' g w=>by
  obtain⟨j,e,b,k⟩:=hyp;subst e;obtain⟨v,rfl,w1⟩:=vws1 w;cases zB (zn w1).rd;exact⟨j,rfl,b.1,b.2,k _ G' H' g zeC⟩) q⟩⟩
theorem JO{tg a b:Expr}{t:TA3}{p:Pos}(hg:Gl X "range")(hm:X.mg "range" = none)(ha:PA3 X H0 [a,b] t)(hs:starEach [a,b] X.env=[#[42],#[41]]:=by rfl)(hs2:starEach [b] X.env=[#[41]]:=by rfl):PI3 X H0 tg (.Call (.Name "range" p) [a,b] [] pos) (rg2 t):=
 ⟨fun ρ Q Q' hq q=>ha.mono ρ _ _ (fun c ⟨i,j,e,b,q⟩=>⟨i,j,e,b,hq _ _ q⟩) q,PI.imp (znf hg hm ha.ok hs hs2) fun σ H R=>el5 fun G0 ρ G F q=>⟨G0,ρ,G,F,ha.mono ρ _ _ (fun c hyp vs G' H' g w=>by
  obtain⟨i,j,e,b,k⟩:=hyp;subst e;obtain⟨v,u,rfl,w1,w2⟩:=vws2 w;cases zB (zn w1).rd;cases zB (zn w2).rd;exact⟨i,j,rfl,b,k _ G' H' g zeC⟩) q⟩⟩
end
variable[LamW]
def cst3(n:Nat)(js:List Nat)(ρ : Env3):Env3:=List.replicate n none++js.map fun j=>(ρ[j]?).join
def er(D:Addr)(H:Hp):Hp:=fun b=>if b=D then none else H b
theorem JQ{D:Addr}{H:Hp}:er D H D=none:=by unfold er;rw [if_pos rfl]
theorem jT{D b:Addr}{H:Hp}(h:b≠D):er D H b=H b:=by unfold er;rw [if_neg h]
theorem zmr{D b:Addr}{H:Hp}{o:HO}(h:er D H b=some o):b≠D/\H b=some o:=by
 by_cases e:b=D
 . subst e;rw [JQ] at h;cases h
 . rw [jT e] at h;exact⟨e,h⟩
theorem zj0{D:Addr}{H:Hp}{o:HO}(h:H D=some o):upd (er D H) D o=H:=by
 funext b
 by_cases e:b=D
 . subst e;rw [zt,h]
 . rw [zj e,jT e]
theorem Gr.er{D:Addr}{G H G' H':Hp}(g:Gr G H G' H')(hD:G' D=none)(hx:∀ f,H' D≠some (.ext f)):Gr G (er D H) G' (er D H') where
 g:=g.g
 h:=fun b o e=>by
  obtain⟨n,e⟩:=zmr e;rw [jT n]
  rcases g.h b o e with z|⟨z,y,c',h1,h2⟩
  . exact .inl z
  . exact .inr ⟨z,y,c',by rw [jT n];exact h1,by rw [jT (fun w=>by rw [w] at h2;exact hx _ h2)];exact h2⟩
 sub:=⟨fun b o e=>by
  rw [jT (zZ e hD)];exact g.sub.s b o e,g.sub.cl⟩
 new:=fun b o e=>by
  rcases g.new b o e with q|q|q
  . exact .inl q
  . by_cases hb:b=D
    . subst hb;exact .inr (.inl JQ)
    . exact .inr (.inl (by rw [jT hb];exact q))
  . exact .inr (.inr q)
theorem JJ{α : Type}{n i:Nat}{js:List Nat}{l:List (Option α)}{x:α}(h:(List.replicate n none++js.map fun j=>(l[j]?).join)[i]?=some (some x)):∃ j,n<=i/\js[i - n]?=some j/\l[j]?=some (some x):=by
 by_cases hi:i<n
 . rw [Yab (by simpa using hi),Yad,if_pos hi] at h
   cases h
 . rw [Yae (by simpa using hi),Ybb,Ya0] at h
   cases ej:js[i - n]? with
   | none=>rw [ej] at h;cases h
   | some j=>
    rw [ej] at h;have h':(l[j]?).join=some x:=Wba h;refine⟨j,WbK.mp hi,rfl,?_⟩;cases q:l[j]? with
    | none=>rw [q] at h';cases h'
    | some o => rw [q] at h'; cases o with
     | none=>cases h'
     | some v=>cases h';rfl
theorem zhI{α : Type}{n i j:Nat}{js:List Nat}{l:List (Option α)}{x:α}(hi:n<=i)(hj:js[i - n]?=some j)(h:l[j]?=some (some x)):(List.replicate n none++js.map fun j=>(l[j]?).join)[i]?=some (some x):=by
 rw [Yae (by simpa using hi),Ybb,Ya0,hj]
 simp [h]
theorem Rf.asideU{K:Ybf}{H0 G:Hp}{A:Addr}{ys:List V}{f:Bool}{v:V}{d:D}(r:Rf K H0 G f v d)(hA:G A=none):Rf K (upd H0 A (.lst ys)) G f v d:=⟨r.rd,fun h=>jM (Same.refl _) (fun a o e n=>by rw [zj (zZ e hA)];exact n) (r.nw h)⟩
theorem Rf.asideD{K:Ybf}{H0 G:Hp}{A:Addr}{ys:List V}{f:Bool}{v:V}{d:D}(r:Rf K (upd H0 A (.lst ys)) G f v d):Rf K H0 G f v d:=⟨r.rd,fun h=>jM (Same.refl _) (fun a o e n=>by
 have ha:a≠A:=fun z=>by subst z;rw [zt] at n;cases n
 rw [zj ha] at n;exact n) (r.nw h)⟩
theorem Rf.aside{K:Ybf}{H0 G:Hp}{A:Addr}{ys zs:List V}{f:Bool}{v:V}{d:D}(r:Rf K (upd H0 A (.lst ys)) G f v d)(hA:G A=none):Rf K (upd H0 A (.lst zs)) G f v d:=r.asideD.asideU hA
theorem Rfs.asideU{K:Ybf}{H0 G:Hp}{A:Addr}{ys:List V}{f:Bool}{v:List V}{d:List D}(r:Rfs K H0 G f v d)(hA:G A=none):Rfs K (upd H0 A (.lst ys)) G f v d:=⟨r.rd,fun h=>rdns_mono (Same.refl _) (fun a o e n=>by rw [zj (zZ e hA)];exact n) (r.nw h)⟩
theorem Rfs.aside{K:Ybf}{H0 G:Hp}{A:Addr}{ys zs:List V}{f:Bool}{v:List V}{d:List D}(r:Rfs K (upd H0 A (.lst ys)) G f v d)(hA:G A=none):Rfs K (upd H0 A (.lst zs)) G f v d:=⟨r.rd,fun h=>rdns_mono (Same.refl _) (fun a o e n=>by
 rw [zj (zZ e hA)] at n ⊢;exact n) (r.nw h)⟩
theorem Dr.asideU{K:Ybf}{H0 G:Hp}{A:Addr}{ys:List V}{kvs:List #[48]}{ds:List (List Key×PyData)}(r:Dr K H0 G kvs ds)(hA:G A=none):Dr K (upd H0 A (.lst ys)) G kvs ds:=by
 induction r with
 | nil=>exact .nil
 | cons a b ih=>exact .cons (a.asideU hA) ih
theorem Dr.aside{K:Ybf}{H0 G:Hp}{A:Addr}{ys zs:List V}{kvs:List #[48]}{ds:List (List Key×PyData)}(r:Dr K (upd H0 A (.lst ys)) G kvs ds)(hA:G A=none):Dr K (upd H0 A (.lst zs)) G kvs ds:=by
 induction r with
 | nil=>exact .nil
 | cons a b ih=>exact .cons (a.aside hA) ih
theorem Vw.rebase{K:Ybf}{H0 G H:Hp}{A:Addr}{v:V}{c:Cl}(w:Vw K H0 G (upd H A (.lst [])) v c)(s:Sub G H)(hA:H A=none):Vw K (upd H0 A (.lst [])) G (upd H A (.lst [])) v c:=by
 have gA:G A=none:=s.free hA;cases w with
 | sh r=>exact .sh (r.asideU gA)
 | ow h r n=>exact .ow h (r.asideU gA) n
 | tr t=>
  refine .tr ⟨t.top,t.topG,t.nd,t.len,fun k p m h1 h2=>?_⟩
  obtain⟨vs,a,b,c⟩:=t.item k p m h1 h2;exact⟨vs,a,b,c.asideU gA⟩
 | dt h r n=>exact .dt h (r.asideU gA) n
 | dk h n=>exact .dk h n
 | fd h r k=>exact .fd h (r.asideU gA) k
 | tk h=>exact .tk h
 | dm h n=>exact .dm h n
 | ex h=>exact .ex h
section
variable{K:Ybf}{H0 G0:Hp}{ρ : Env3}{σ : L2.St}{G H:Hp}{D:Addr}
theorem Fr3.comp(F:#[26])(n:Nat){js:List Nat}(hj:js.Nodup)(hD:H D=none):Fr3 K (upd H0 D (.lst [])) G (cst3 n js ρ) (cst n js σ) G (upd H D (.lst [])) where
 keep:=fun b o e=>by
  by_cases hb:b=D
  . subst hb;rw [zt] at e ⊢;exact .inl e
  . rw [zj hb] at e ⊢
    rcases F.keep b o e with z|⟨z,y,l⟩
    . exact .inl z
    . exact .inr ⟨z,y,l.same (zT hD _).x⟩
 sub:=F.sub.trans (zT hD _).x
 old:=fun b o e=>.inl e
 g0:=Same.refl _
 slot:=fun i c e=>by
  obtain⟨j,h1,h2,h3⟩:=JJ e;obtain⟨v,h4,h5⟩:=F.slot j c h3;exact⟨v,zhI h1 h2 h4,(h5.gr (Gr.apart F.sub hD)).rebase F.sub hD⟩
 mine:=fun i c v a e e' h=>by
  obtain⟨j,h1,h2,h3⟩:=JJ e;obtain⟨j',h1',h2',h3'⟩:=JJ e';rw [h2] at h2';cases h2';obtain⟨⟨o,q,_⟩,_⟩:=(F.vw h3 h3').has h;rw [zj (zZ q hD)];exact F.mine j c v a h3 h3' h
 apart:=fun i k c1 c2 v1 v2 a e1 e2 e3 e4 q1 q2=>by
  obtain⟨j,h1,h2,h3⟩:=JJ e1;obtain⟨j',h1',h2',h3'⟩:=JJ e2;obtain⟨j2,h4,h5,h6⟩:=JJ e3;obtain⟨j3,h7,h8,h9⟩:=JJ e4;rw [h2] at h5;cases h5;rw [h2'] at h8;cases h8;have e:=F.apart j j' c1 c2 v1 v2 a h3 h3' h6 h9 q1 q2;subst e;have ei:i - n=k - n:=by
   obtain⟨a1,b1⟩:=Ya8.mp h2;obtain⟨a2,b2⟩:=Ya8.mp h2';exact(Wa0 hj).mp (b1.trans b2.symm)
  omega
 len:=by unfold cst3 cst;simp
theorem Fr3.aside{ys zs:List V}(F:Fr3 K (upd H0 D (.lst ys)) G0 ρ σ G H)(hG0:G0 D=none):Fr3 K (upd H0 D (.lst zs)) G0 ρ σ G (upd H D (.lst zs)):=by
 have hD:H D=some (.lst ys):=F.keep.at (b:=D) zt;have hG:G D=none:=by
  cases e:G D with
  | none=>rfl
  | some o=>
   rcases F.old D o e with q|q|⟨xs,q⟩
   . rw [hG0] at q;cases q
   . rw [zt] at q;cases q
   . have:=F.sub.s _ _ e;rw [hD,q] at this;cases this
 refine⟨fun b o e=>?_,⟨fun b o e=>by rw [zj (zZ e hG)];exact F.sub.s b o e,F.sub.cl⟩,fun b o e=>?_,F.g0,fun i c e=>?_,fun i c v a e e' h=>?_,F.apart,F.len⟩
 . by_cases hb:b=D
   . subst hb;rw [zt] at e ⊢;exact .inl e
   . rw [zj hb] at e ⊢
     rcases F.keep b o (by rw [zj hb];exact e) with z|⟨z,y,l⟩
     . exact .inl z
     . exact .inr ⟨z,y,l.upd hb fun f q=>by rw [hD] at q;cases q⟩
 . rcases F.old b o e with q|q|q
   . exact .inl q
   . by_cases hb:b=D
     . subst hb;rw [zt] at q;cases q
     . rw [zj hb] at q;exact .inr (.inl (by rw [zj hb];exact q))
   . exact .inr (.inr q)
 . obtain⟨v,h1,h2⟩:=F.slot i c e
   refine⟨v,h1,?_⟩
   cases h2 with
   | sh r=>exact .sh (r.aside hG)
   | ow h r n=>
    rename_i l vs f ds;have hl:l≠D:=fun z=>by
     subst z;have:=F.mine i _ _ l e h1 rfl;rw [zt] at this;cases this
    exact .ow (by rw [zj hl];exact h) (r.aside hG) n
   | dt h r n=>
    rename_i l kvs ds;have hl:l≠D:=fun z=>by
     subst z;have:=F.mine i _ _ l e h1 rfl;rw [zt] at this;cases this
    exact .dt (by rw [zj hl];exact h) (r.aside hG) n
   | dk h n=>
    rename_i l ks;have hl:l≠D:=fun z=>by
     subst z;have:=F.mine i _ _ l e h1 rfl;rw [zt] at this;cases this
    exact .dk (by rw [zj hl];exact h) n
   | fd h r k=>exact .fd h (r.aside hG) k
   | tk h=>exact .tk h
   | dm h n=>
    rename_i l ks;have hl:l≠D:=fun z=>by
     subst z;have:=F.mine i _ _ l e h1 rfl;rw [zt] at this;cases this
    exact .dm (by rw [zj hl];exact h) n
   | tr t=>
    rename_i l ps ms;have hl:∀ a,Has (.tr ps ms) (.ref l) a->a≠D:=fun a ha z=>by
     subst z;have:=F.mine i _ _ a e h1 ha;rw [zt] at this;cases this
    refine .tr ⟨by rw [zj (hl l #[70])];exact t.top,t.topG,t.nd,t.len,fun k p m h1 h2=>?_⟩
    obtain⟨vs,a,b,c⟩:=t.item k p m h1 h2;exact⟨vs,by rw [zj (hl p (.inr (Yah h1)))];exact a,b,c.aside hG⟩
   | ex h=>
    rename_i l C;have hl:l≠D:=fun z=>by subst z;rw [hD] at h;cases h
    exact .ex (by rw [zj hl];exact h)
 . have q:=F.mine i c v a e e' h
   have hl:a≠D:=fun z=>by subst z;rw [zt] at q;cases q
   rw [zj hl] at q ⊢;exact q
theorem Fr3.atD{ys:List V}(F:Fr3 K (upd H0 D (.lst ys)) G0 ρ σ G H)(hG0:G0 D=none):G D=none/\H D=some (.lst ys):=by
 refine⟨?_,F.keep.at (b:=D) zt⟩
 cases e:G D with
 | none=>rfl
 | some o=>
  rcases F.old D o e with q|q|⟨xs,q⟩
  . rw [hG0] at q;cases q
  . rw [zt] at q;cases q
  . have h1:=F.sub.s _ _ e
    have h2:=F.keep.at (b:=D) zt;rw [h2,q] at h1;cases h1
end
section
variable{X:Cx}{H0:Hp}{pos:Pos}
structure PTs3(X:Cx)(H0:Hp)(es:#[54])(t:TT3):Prop where
 mono:∀ ρ (Q Q':Bool->Prop),(∀ c,Q c->Q' c)->t ρ Q->t ρ Q'
 ok:PTs X es (j9 X.K H0 t)
def true3:TT3:=fun _ Q=>Q true
theorem z6:PTs3 X H0 [] true3:=⟨fun ρ Q Q' h q=>h _ q,fun pins s σ H Q I=>el5 fun G0 ρ G F q=>zdB pins s σ H Q I (q G H (Gr.refl F.sub))⟩
theorem zaA{c:Expr}{t:TT3}(h:PT3 X H0 c t):PTs3 X H0 [c] t:=⟨h.mono,zlN h.ok⟩
def jm(g:TG3)(tt:TT3)(te:TE3)(f:Bool):List D->Bool->List D->Env3->(Bool->List D->Prop)->Prop
 | [],fa,acc,_,Q=>Q fa acc
 | d::ds,fa,acc,ρ,Q=>g f d ρ fun ρ'=>tt ρ' fun k=>if k=true then te ρ' fun c=>asS c fun fy y=>jm g tt te f ds (fa&&fy) (acc++[y]) ρ' Q else jm g tt te f ds fa acc ρ' Q
def Ji(ti:TI3)(g:TG3)(tt:TT3)(te:TE3)(n:Nat)(js:List Nat):TN3:=fun ρ Q=>ti ρ fun f ds=>ds.length<=sizeLine/\jm g tt te f ds true [] (cst3 n js ρ) Q
theorem zbP{g:TG3}{tt:TT3}{te:TE3}(hg:∀ f d ρ (Q Q':Env3->Prop),(∀ c,Q c->Q' c)->g f d ρ Q->g f d ρ Q')(ht:∀ ρ (Q Q':Bool->Prop),(∀ c,Q c->Q' c)->tt ρ Q->tt ρ Q')(he:∀ ρ (Q Q':Cl->Prop),(∀ c,Q c->Q' c)->te ρ Q->te ρ Q')
 {f:Bool} {Q Q':Bool->List D->Prop} (h:∀ f c,Q f c->Q' f c):∀ ds fa acc ρ,jm g tt te f ds fa acc ρ Q->jm g tt te f ds fa acc ρ Q'
 | [],fa,acc,ρ,q=>h _ _ q
 | d :: ds, fa, acc, ρ, q => hg f d ρ _ _ (fun ρ' => ht ρ' _ _ fun k => by
  cases k with
  | true=>exact he ρ' _ _ fun c q=>by obtain⟨fy,y,e,q⟩:=jV q;subst e;exact zbP hg ht he h ds _ _ ρ' q
  | false=>exact zbP hg ht he h ds fa acc ρ') q
theorem zbF{tn fn N:List Str}{js:List Nat}(nd:(tn++fn).Nodup)(hj:js.map (fun j=>N[j]?)=fn.map some):js.Nodup:=by
 have h1:(fn.map some).Nodup:=by
  have:=(WaP.mp nd).2.1;exact List.Pairwise.map some (fun a b h e=>h (Wba e)) this
 rw [<-hj] at h1;exact List.Pairwise.of_map _ (fun a b h e=>h (by rw [e])) h1
theorem zca{elt tg:Expr}{ifs:#[54]}{scope:Scope}{N:List Str}{g:TG3}{tt:TT3}{te:TE3}
 (hb:∀ H0 s H fp cl,PG3 (X.comp scope N s H fp cl) H0 tg g/\PTs3 (X.comp scope N s H fp cl) H0 ifs tt/\PE3 (X.comp scope N s H fp cl) H0 elt te):∀ s H fp cl,PG (X.comp scope N s H fp cl) tg (fun v σ H Q=>∃ H0,JV X.K H0 g v σ H Q)/\PTs (X.comp scope N s H fp cl) ifs (fun σ H Q=>∃ H0,j9 X.K H0 tt σ H Q)/\PE (X.comp scope N s H fp cl) elt (fun σ H Q=>∃ H0,jo X.K H0 te σ H Q):=fun s H fp cl=>
 ⟨fun pins s' σ H' v u Q I r ⟨h0,q⟩=>(hb h0 s H fp cl).1.ok pins s' σ H' v u Q I r q,fun pins s' σ H' Q I ⟨h0,q⟩=>(hb h0 s H fp cl).2.1.ok pins s' σ H' Q I q,fun pins s' σ H' Q I ⟨h0,q⟩=>(hb h0 s H fp cl).2.2.ok pins s' σ H' Q I q⟩
theorem zcd{Y Y' Y'':Cx}{h1 h2 h3:Hp}{elt tg iter:Expr}{ifs:#[54]}{ti:TI3}{g:TG3}{tt:TT3}{te:TE3}{n:Nat}{js:List Nat}(hjn:js.Nodup)(hi:PI3 X H0 tg iter ti)(m1:PG3 Y h1 tg g)(m2:PTs3 Y' h2 ifs tt)(m3:PE3 Y'' h3 elt te) :
 ∀ σ H Q,ze7 X.K H0 (Ji ti g tt te n js) σ H Q->zaS (Zx X.K H0 ti) (fun v σ H Q=>∃ H0,JV X.K H0 g v σ H Q) (fun σ H Q=>∃ H0,j9 X.K H0 tt σ H Q) (fun σ H Q=>∃ H0,jo X.K H0 te σ H Q) n js σ H Q:=by
 rintro σ H Q ⟨G0,ρ,G,F,q⟩
 refine⟨G0,ρ,G,F,hi.mono ρ _ _ (fun fl ds ⟨hz,k⟩ J G1 H1 g1 ok A hA=>?_) q⟩
 have F1:=F.gr g1;have gA:G1 A=none:=g1.sub.free hA;have h0A:H0 A=none:=F1.keep.free hA;refine⟨fun i m ys σ2 H2=>i<=ds.length/\m=ds.length - i/\ys.length<=i/\∃ ρ2 G2 fe es,Fr3 X.K (upd H0 A (.lst ys)) G1 ρ2 σ2 G2 H2/\Rfs X.K H0 G2 fe ys es/\Gr G1 H1 G2 (er A H2)/\jm g tt te fl (ds.drop i) fe es ρ2 (fun f ds=>∀ l vs G' H',Gr G H G' H'->H' l=none->Rfs X.K H0 G' f vs ds->Q (.ref l) (upd H' l (.lst vs))),
  ⟨ds.length,WbF _,rfl,YaY _,cst3 n js ρ,G1,true,[],F1.comp n hjn hA,.nil,?_,k⟩,?_⟩
 . have e:er A (upd H1 A (.lst []))=H1:=by
    funext b
    by_cases hb:b=A
    . subst hb;rw [JQ,hA]
    . rw [jT hb,zj hb]
   rw [e];exact Gr.refl g1.sub
 rintro i m ys σ2 H2 ⟨hil,rfl,hyl,ρ2,G2,fe,es,F2,r2,g2,k2⟩
 obtain⟨hG2,hH2⟩:=F2.atD gA
 by_cases hlt:i<ds.length
 . right
   have hd:ds[i]?=some ds[i]:=YaQ hlt;obtain⟨hgo,hy⟩:=ok.go i _ G2 H2 hd F2.g0 F2.sub;rw [Wag hlt] at k2;refine⟨hgo,fun x H3 y=>?_⟩
   obtain⟨G3,g3,r3⟩:=hy x H3 y;have F3:=F2.gr g3;refine⟨upd H0 A (.lst ys),G1,ρ2,G3,fl,_,F3,r3.asideU (F3.atD gA).1,m1.mono fl _ ρ2 _ _ (fun ρ4 q4 σ4 G4 H4 F4 s4 g4=>?_) k2⟩
   refine⟨upd H0 A (.lst ys),G1,ρ4,G4,F4,m2.mono ρ4 _ _ (fun b q5 G5 H5 g5=>?_) q4⟩
   have F5:=F4.gr g5;have gg5:=(g3.trans g4).trans g5;cases b with
   | true=>
    refine⟨upd H0 A (.lst ys),G1,ρ4,G5,F5,m3.mono ρ4 _ _ (fun c q6 v G6 H6 g6 w6=>?_) q5⟩
    obtain⟨fy,y,hc,q6⟩:=jV q6;subst hc;have F6:=F5.gr g6;obtain⟨hG6,hH6⟩:=F6.atD gA;have gg6:=gg5.trans g6;refine⟨hH6,YaU (WaG hyl hlt) hz,ds.length - (i+1),Nat.sub_lt_sub_left hlt (Wa1 _),Nat.succ_le_of_lt hlt,rfl,by rw [YaS,List.length_singleton];omega,ρ4,G6,_,es++[y],F6.aside gA,(r2.same gg6.g).snoc ((zn w6).asideD),?_,q6⟩
    have e:er A (upd H6 A (.lst (ys++[v])))=er A H6:=by
     funext b
     by_cases hb:b=A
     . subst hb;rw [JQ,JQ]
     . rw [jT hb,jT hb,zj hb]
    rw [e];exact g2.trans (gg6.er hG6 fun f z=>by rw [hH6] at z;cases z)
   | false=>
    obtain⟨hG5,hH5⟩:=F5.atD gA;exact⟨ds.length - (i+1),Nat.sub_lt_sub_left hlt (Wa1 _),Nat.succ_le_of_lt hlt,rfl,Nat.le_succ_of_le hyl,ρ4,G5,fe,es,F5,r2.same gg5.g,g2.trans (gg5.er hG5 fun f z=>by rw [hH5] at z;cases z),q5⟩
 . left
   have e:i=ds.length:=Nat.le_antisymm hil (WbK.mp hlt);rw [e,List.drop_length] at k2;refine⟨ok.stop i G2 H2 e F2.g0 F2.sub,?_⟩;have k3:=k2 A ys G2 (er A H2) (g1.trans g2) JQ r2;rw [zj0 hH2] at k3;exact k3
theorem zY{elt tg iter:Expr}{ifs:#[54]}{scope:Scope}{ti:TI3}{g:TG3}{tt:TT3}{te:TE3}(tn fn:List Str)(js:List Nat)(hcalm:X.calm=true)(S:CompSc X.env.scope scope tn fn)(hj:js.map (fun j=>X.N[j]?)=fn.map some)(hi:PI3 X H0 tg iter ti)
 (hb:∀ H0 s H fp cl,PG3 #[16] H0 tg g/\PTs3 #[16] H0 ifs tt/\PE3 #[16] H0 elt te)
 (hs:∀ x,foldedSetIterable iter X.env x=pure x:=by intro _;rfl):PN3 X H0 (.ListComp elt [⟨tg,iter,ifs,0⟩] scope pos) (Ji ti g tt te tn.length js):=by
 obtain⟨m1,m2,m3⟩:=hb H0 X.s₀ X.H₀ [] [];have hjn:=zbF S.nd hj;refine⟨fun ρ Q Q' h q=>hi.mono ρ _ _ (fun f ds ⟨z,q⟩=>⟨z,zbP m1.mono m2.mono m3.mono h ds _ _ _ q⟩) q,?_⟩
 exact PE.imp (zib (wi:=Zx X.K H0 ti) (g:=fun v σ H Q=>∃ H0,JV X.K H0 g v σ H Q) (tt:=fun σ H Q=>∃ H0,j9 X.K H0 tt σ H Q) (te:=fun σ H Q=>∃ H0,jo X.K H0 te σ H Q) tn fn js hcalm S hj hi.ok (zca hb) hs) (zcd hjn hi m1 m2 m3)
theorem zk6{elt tg iter:Expr}{ifs:#[54]}{scope:Scope}{spos pos':Pos}{i:Nat}{x:Str}{ti:TI3}{g:TG3}{tt:TT3}{te:TE3}(hN:X.N.Nodup)(hix:X.N[i]?=some x)(hx:#[60])(tn fn:List Str)(js:List Nat)(hcalm:X.calm=true)(S:CompSc X.env.scope scope tn fn)(hj:js.map (fun j=>X.N[j]?)=fn.map some)(hi:PI3 X H0 tg iter ti)
 (hb:∀ H0 s H fp cl,PG3 #[16] H0 tg g/\PTs3 #[16] H0 ifs tt/\PE3 #[16] H0 elt te)
 (hs:∀ x,foldedSetIterable iter X.env x=pure x:=by intro _;rfl)
 (hsw:swapsWith (.ListComp elt [⟨tg,iter,ifs,0⟩] scope pos) (some (.Name x pos')) spos.line X.env=pure true:=by rfl) (hf:#[20]:=by first|exact .inl rfl|exact .inr rfl|assumption) :
 PS3 X H0 (.Assign [.Name x pos'] (.ListComp elt [⟨tg,iter,ifs,0⟩] scope pos) spos) (own3 i (Ji ti g tt te tn.length js)):=by
 obtain⟨m1,m2,m3⟩:=hb H0 X.s₀ X.H₀ [] [];have hjn:=zbF S.nd hj;have pn:=zY (pos:=pos) tn fn js hcalm S hj hi hb hs;refine PS.imp (zcb hN hix hx (wi:=Zx X.K H0 ti) (g:=fun v σ H Q=>∃ H0,JV X.K H0 g v σ H Q) (tt:=fun σ H Q=>∃ H0,j9 X.K H0 tt σ H Q) (te:=fun σ H Q=>∃ H0,jo X.K H0 te σ H Q) tn fn js hcalm S hj hi.ok (zca hb) hs hsw hf) fun B σ H=>el7 fun G0 A ρ G F q L=>?_
 exact zcd hjn hi m1 m2 m3 σ H _ ⟨G0,ρ,G,F,pn.mono ρ _ _ (fun f ds q l vs G' H' g hl r=>L.nx _ _ G' _ ((F.gr g).own r hl) q) q⟩
theorem ZO{elt tg iter:Expr}{ifs:#[54]}{scope:Scope}{spos pos':Pos}{i:Nat}{x:Str}{ti:TI3}{g:TG3}{tt:TT3}{te:TE3}(hN:X.N.Nodup)(hix:X.N[i]?=some x)(hx:#[60])(tn fn:List Str)(js:List Nat)(hcalm:X.calm=true)(S:CompSc X.env.scope scope tn fn)(hj:js.map (fun j=>X.N[j]?)=fn.map some)(hi:PI3 X H0 tg iter ti)
 (hb:∀ H0 s H fp cl,PG3 #[16] H0 tg g/\PTs3 #[16] H0 ifs tt/\PE3 #[16] H0 elt te)
 (hs:∀ x,foldedSetIterable iter X.env x=pure x:=by intro _;rfl)
 (hsw:swapsWith (.ListComp elt [⟨tg,iter,ifs,0⟩] scope pos) (some (.Name x pos')) spos.line X.env=pure true:=by rfl) (hf:#[20]:=by first|exact .inl rfl|exact .inr rfl|assumption) :
 PS3 X H0 (.Assign [.Name x pos'] (.ListComp elt [⟨tg,iter,ifs,0⟩] scope pos) spos) (set3 i (nw3 (Ji ti g tt te tn.length js))):=by
 obtain⟨m1,m2,m3⟩:=hb H0 X.s₀ X.H₀ [] [];have hjn:=zbF S.nd hj;have pn:=zY (pos:=pos) tn fn js hcalm S hj hi hb hs;refine PS.imp (zcb hN hix hx (wi:=Zx X.K H0 ti) (g:=fun v σ H Q=>∃ H0,JV X.K H0 g v σ H Q) (tt:=fun σ H Q=>∃ H0,j9 X.K H0 tt σ H Q) (te:=fun σ H Q=>∃ H0,jo X.K H0 te σ H Q) tn fn js hcalm S hj hi.ok (zca hb) hs hsw hf) fun B σ H=>el7 fun G0 A ρ G F q L=>?_
 refine zcd hjn hi m1 m2 m3 σ H _ ⟨G0,ρ,G,F,pn.mono ρ _ _ (fun f ds q l vs G' H' g hl r=>?_) q⟩
 refine L.nx _ _ (upd G' l (.lst vs)) _ ((F.gr (g.trans (Gr.put g.sub hl))).set ?_) q
 exact⟨.lst (SqL.of zt) (rdvs_same (zT (g.sub.free hl) _) r.rd),fun hf=>.lst zt ((F.keep.trans g.h).free hl) (rdns_mono (zT (g.sub.free hl) _) (fun _ _ _ z=>z) (r.nw hf))⟩
end
def jR(N:List Str)(ds:List D):Env3:=ds.map (fun d=>some (.sh (zq d) d))++List.replicate (N.length - ds.length) none
theorem zhx{K:Ybf}{G H:Hp}{N:List Str}{vs:List V}{ds:List D}(s:Sub G H)(r:RdVs K G vs ds):Fr3 K H G (jR N ds) (start N vs) G H:=by
 have at3:∀ (i:Nat) c,(jR N ds)[i]?=some (some c)->∃ d,ds[i]?=some d/\c=.sh (zq d) d:=fun i c e=>by
  unfold jR at e
  by_cases hi:i<ds.length
  . rw [Yab (by simpa using hi),Ya0] at e
    cases q:ds[i]? with
    | none=>rw [q] at e;cases e
    | some d=>rw [q] at e;cases e;exact⟨d,rfl,rfl⟩
  . rw [Yae (by simpa using hi),Yad] at e
    split at e<;>cases e
 refine⟨zz.refl _,s,fun b o e=>.inl e,Same.refl _,fun i c e=>?_,fun i c v a e _ h=>?_,fun i j c c' v v' a e _ _ _ h _=>?_,?_⟩
 . obtain⟨d,hd,rfl⟩:=at3 i c e
   obtain⟨x,hx,rx⟩:=r.get hd;refine⟨x,?_,.sh ⟨rx,fun h=>Zw h rx⟩⟩
   unfold L2.start;have hi:i<vs.length:=(Ya8.mp hx).1;rw [Yab (by simpa using hi),Ya0,hx];rfl
 . obtain⟨d,hd,z⟩:=at3 i _ e;subst z;exact False.elim h
 . obtain⟨d,hd,z⟩:=at3 i _ e;subst z;exact False.elim h
 . unfold jR L2.start;simp [r.length]
theorem fn3{P:Program}{w:World}{K:Ybf}{mg:#[15]}{base:Heap}{x qual:Str}{st:Stmt}{f:Addr}{fd:FuncData}{N ps:List Str}{k:Nat}{sp:Sp3}(F:Fun K x qual st f fd)(S:FnScope N ps (zh st))(len:∀ ds Q E,sp ds Q E->ds.length=ps.length)
 (hbody:∀ (cdv:Value) (A:Around) (outer:List Env) (s:Shared) (H:Hp) (E:XK) (E3:Addr->Prop),(∀ C H',E3 C->zz H H'->E (.ref C) none H')->Room k (A.deeper (envOfC qual (zh st) s.heap.objs.size f cdv))->
  ∃ t,PSs3 (cxOf (CXR P w) P w K mg base N qual (zh st) f cdv A outer s H E) H (Jd st) t/\∀ ds Q,sp ds Q E3->t { nx:=fun _=>Q true .none,rt:=Q } (jR N ds)):FnOk P w K mg base (CXR P w) (k+1) f fd ps (spL K sp):=by
 refine F.okR S (fun vs H Q E h=>?_) (fun cdv A outer s H vs Q E hr h=>?_)
 . obtain⟨G,ds,_,r,h⟩:=h
   rw [r.length];exact len _ _ _ h
 . obtain⟨G,ds,sG,r,h⟩:=h
   obtain⟨t,ht,hq⟩:=hbody cdv A outer s H E (fun C=>∀ H',zz H H'->E (.ref C) none H') (fun C H' e z=>e H' z) hr
   refine⟨_,ht,G,_,jR N ds,G,zhx sG r,hq ds _ h,⟨fun ρ σ G' H' F' q=>q .non G' H' F'.gr0 (.sc rfl .non),fun f d v G' H' g rd q=>q v G' H' g rd,fun _ _ _ _ _ q=>q.elim,fun _ _ _ _ _ q=>q.elim,fun _ _ _ _ _ _ _ _ _ q=>q.elim⟩⟩
def Zg(C:Addr)(E:Addr->Prop)(t:TA3):TS3:=fun _ ρ=>t ρ fun cs=>cs.length<=sizeLine/\E C
theorem zfj{K:Ybf}{H0 G H:Hp}{vs:List V}{cs:List Cl}(h:Vws K H0 G H vs cs):vs.length=cs.length:=by
 induction h with
 | nil=>rfl
 | cons _ _ ih=>rw [List.length_cons,List.length_cons,ih]
theorem ju{X:Cx}{H0:Hp}{x:Str}{C:Addr}{e0:Expr}{t:TA3}{E:XK}{E3:Addr->Prop}{np cpos pos:Pos}(hE:∀ C H',E3 C->zz H0 H'->E (.ref C) none H')(hf:Flies X E)(hc:X.calm=true)(hg:Gl X x)(hm:X.mg x=some (.ref C))(hx:PySem.W.excIn X.K C bmVE "ValueError.__new__" = true)(ha:PA3 X H0 [e0] t)
 (hdb:#[21]:=by decide) (hs:starEach [e0] X.env=[(false,eval e0 X.env)]:=by rfl):PS3 X H0 (.Raise (some (.Call #[36] [e0] [] cpos)) none pos) (Zg C E3 t):=
 PS.imp (zjq hf hc hg hm hx ha.ok hdb hs) fun B σ H=>el7 fun G0 A ρ G F q L=>⟨G0,ρ,G,F,ha.mono ρ _ _ (fun cs ⟨z,e⟩ vs G' H' g w=>⟨by rw [zfj w];exact z,hE C H' e (F.gr g).keep⟩) q⟩
variable[LamW]
theorem JK{K:Ybf}{G:Hp}{v:V}{i:Str}(r:RdV K G v (.str i)):v=.str i:=by cases r;rfl
theorem zdp{K:Ybf}{G:Hp}{v:V}(r:RdV K G v .none):v=.non:=by cases r;rfl
section
variable{X:Cx}
def add3:R3:=fun a b Q=>match a,b with
 | .sh _ (.int i),.sh _ (.int j)=>Q true (.int (i+j))
 | .sh _ (.str x),.sh _ (.str y)=>x.length+y.length<=sizeLine/\Q true (.str (x++y))
 | _,_=>False
def int3(C:Int->Int->Prop)(g:Int->Int->D):R3:=fun a b Q=>match a,b with
 | .sh _ (.int i),.sh _ (.int j)=>C i j/\Q true (g i j)
 | _,_=>False
def int0(g:Int->Int->D):R3:=fun a b Q=>match a,b with
 | .sh _ (.int i),.sh _ (.int j)=>Q true (g i j)
 | _,_=>False
theorem zF:OpOk X (binaryOp .Add) add3:=by
 refine⟨fun a b Q Q' h q=>?_,fun H0=>OpR.imp (zhA.or zmn) fun x y H Q=>el3 fun G a b s wa wb q=>?_⟩
 . unfold add3 at *;split at q
   . exact h _ _ q
   . exact⟨q.1,h _ _ q.2⟩
   . exact q
 . unfold add3 at q;split at q
   . cases zB (zn wa).rd;cases zB (zn wb).rd
     exact .inl ⟨_,_,rfl,rfl,q _ G H #[64] #[62]⟩
   . cases JK (zn wa).rd;cases JK (zn wb).rd
     exact .inr ⟨_,_,rfl,rfl,q.1,q.2 _ G H #[64] (.sc rfl (.str _))⟩
   . exact q.elim
theorem opI3{f:#[66]}{C:Int->Int->Prop}{g:Int->Int->Int}(h:OpR X f (rI C fun i j=>.int (g i j))):OpOk X f (int3 C fun i j=>.int (g i j)):=by
 refine⟨fun a b Q Q' h q=>?_,fun H0=>OpR.imp h fun x y H Q=>el3 fun G a b s wa wb q=>?_⟩
 . unfold int3 at *;split at q
   . exact⟨q.1,h _ _ q.2⟩
   . exact q
 . unfold int3 at q;split at q
   . cases zB (zn wa).rd;cases zB (zn wb).rd
     exact⟨_,_,rfl,rfl,q.1,q.2 _ G H #[64] #[62]⟩
   . exact q.elim
theorem zlI{f:#[66]}{g:Int->Int->Int}(h:OpR X f (rI0 fun i j=>.int (g i j))):OpOk X f (int0 fun i j=>.int (g i j)):=by
 refine⟨fun a b Q Q' h q=>?_,fun H0=>OpR.imp h fun x y H Q=>el3 fun G a b s wa wb q=>?_⟩
 . unfold int0 at *;split at q
   . exact h _ _ q
   . exact q
 . unfold int0 at q;split at q
   . cases zB (zn wa).rd;cases zB (zn wb).rd
     exact⟨_,_,rfl,rfl,q _ G H #[64] #[62]⟩
   . exact q.elim
theorem zbg{f:#[66]}{g:Int->Int->Bool}(h:OpR X f (rI0 fun i j=>.bl (g i j))):OpOk X f (int0 fun i j=>.bool (g i j)):=by
 refine⟨fun a b Q Q' h q=>?_,fun H0=>OpR.imp h fun x y H Q=>el3 fun G a b s wa wb q=>?_⟩
 . unfold int0 at *;split at q
   . exact h _ _ q
   . exact q
 . unfold int0 at q;split at q
   . cases zB (zn wa).rd;cases zB (zn wb).rd
     exact⟨_,_,rfl,rfl,q _ G H #[64] #[61]⟩
   . exact q.elim
theorem jx:OpOk X (binaryOp .Sub) (int0 fun i j=>.int (i - j)):=zlI zl5
theorem zN:OpOk X (binaryOp .Mult) (int3 IntMulOk fun i j=>.int (i*j)):=opI3 zkB
theorem zM:OpOk X (binaryOp .FloorDiv) (int3 Jn fun i j=>.int (i/j)):=opI3 zjI
theorem zJ:OpOk X (binaryOp .Mod) (int3 (fun _ j=>0<j) fun i j=>.int (i%j)):=opI3 zhW
theorem Jy:OpOk X (binaryOp .Pow) (int3 Jz fun i j=>.int (i ^ j.toNat)):=opI3 zha
theorem jw:OpOk X (compareOp .Lt) (int0 fun i j=>.bool (decide (i<j))):=zbg zlW
theorem jD:OpOk X (compareOp .LtE) (int0 fun i j=>.bool (decide (i<=j))):=zbg zjD
theorem jN:OpOk X (compareOp .Gt) (int0 fun i j=>.bool (decide (j<i))):=zbg ziV
theorem zdL:OpOk X (compareOp .GtE) (int0 fun i j=>.bool (decide (j<=i))):=zbg ziQ
def neg3:U3:=fun a Q=>match a with
 | .sh _ (.int i)=>Q true (.int (-i))
 | _=>False
theorem UnR.imp{f:Value->Sem Value}{r r':V->Hp->VK->Prop}(h:UnR X f r)(i:∀ x H Q,r' x H Q->r x H Q):UnR X f r':=fun pins s σ H x v Q I rx q=>h pins s σ H x v Q I rx (i _ _ _ q)
theorem zdd:UnOk X (unaryOp .USub) neg3:=by
 refine⟨fun a Q Q' h q=>?_,fun H0=>UnR.imp zit fun x H Q ⟨G,a,s,wa,q⟩=>?_⟩
 . unfold neg3 at *;split at q
   . exact h _ _ q
   . exact q
 . unfold neg3 at q;split at q
   . cases zB (zn wa).rd
     exact⟨_,rfl,q _ G H #[64] #[62]⟩
   . exact q.elim
def eqOk:D->D->Prop
 | .str _,.str _=>True
 | .int _,.int _=>True
 | d,e=>SeqAt.shaped d=true/\SeqAt.shaped e=true
def eqv3:D->D->Bool
 | .str x,.str y=>decide (x=y)
 | .int x,.int y=>decide (x=y)
 | d,e=>PyData.eqv d e
def eq3:R3:=fun a b Q=>a.dat=true/\b.dat=true/\eqOk a.d b.d/\Q true (.bool (eqv3 a.d b.d))
def ne3:R3:=fun a b Q=>a.dat=true/\b.dat=true/\eqOk a.d b.d/\Q true (.bool (!eqv3 a.d b.d))
theorem zgl{d e:D}:(∃ x y,d=.str x/\e=.str y/\eqv3 d e=decide (V.str x=V.str y))\/(∃ x y,d=.int x/\e=.int y/\eqv3 d e=decide (V.int x=V.int y))\/(eqv3 d e=PyData.eqv d e/\(eqOk d e->SeqAt.shaped d=true/\SeqAt.shaped e=true)):=by
 cases d<;>cases e<;>first
  | exact .inr (.inr ⟨rfl,fun h=>h⟩)
  | exact .inl ⟨_,_,rfl,rfl,by simp [eqv3]⟩
  | exact .inr (.inl ⟨_,_,rfl,rfl,by simp [eqv3]⟩)
theorem zO(hu:X.A.units+64<cLine):OpOk X (compareOp .Eq) eq3:=by
 refine⟨fun a b Q Q' h ⟨x,y,z,q⟩=>⟨x,y,z,h _ _ q⟩,fun H0=>OpR.imp (zjf.or (zmx hu)) fun x y H Q ⟨G,a,b,s,wa,wb,ha,hb,ho,q⟩=>?_⟩
 have ra:=wa.rd s ha;have rb:=wb.rd s hb
 rcases zgl (d:=a.d) (e:=b.d) with ⟨i,j,e1,e2,e3⟩|⟨i,j,e1,e2,e3⟩|⟨e3,hs⟩
 . rw [e1] at ra;rw [e2] at rb
   cases JK ra;cases JK rb
   exact .inl ⟨rfl,by rw [<-e3];exact q _ G H #[64] #[61]⟩
 . rw [e1] at ra;rw [e2] at rb
   cases zB ra;cases zB rb
   exact .inl ⟨rfl,by rw [<-e3];exact q _ G H #[64] #[61]⟩
 . exact .inr ⟨_,_,ra,rb,(hs ho).1,(hs ho).2,by rw [<-e3];exact q _ G H #[64] #[61]⟩
theorem jX(hu:X.A.units+64<cLine):OpOk X (compareOp .NotEq) ne3:=by
 refine⟨fun a b Q Q' h ⟨x,y,z,q⟩=>⟨x,y,z,h _ _ q⟩,fun H0=>OpR.imp (zjo.or (zja hu)) fun x y H Q ⟨G,a,b,s,wa,wb,ha,hb,ho,q⟩=>?_⟩
 have ra:=wa.rd s ha;have rb:=wb.rd s hb
 rcases zgl (d:=a.d) (e:=b.d) with ⟨i,j,e1,e2,e3⟩|⟨i,j,e1,e2,e3⟩|⟨e3,hs⟩
 . rw [e1] at ra;rw [e2] at rb
   cases JK ra;cases JK rb
   exact .inl ⟨rfl,by rw [<-e3];exact q _ G H #[64] #[61]⟩
 . rw [e1] at ra;rw [e2] at rb
   cases zB ra;cases zB rb
   exact .inl ⟨rfl,by rw [<-e3];exact q _ G H #[64] #[61]⟩
 . exact .inr ⟨_,_,ra,rb,(hs ho).1,(hs ho).2,by rw [<-e3];exact q _ G H #[64] #[61]⟩
def isNone:Cl->Bool
 | .sh _ .none=>true
 | _=>false
theorem zfE{K:Ybf}{H0 G H:Hp}{v:V}{c:Cl}(w:Vw K H0 G H v c):decide (v=.non)=isNone c:=by
 cases w with
 | sh r=>cases r.rd<;>simp [isNone]
 | ow _ _ _=>simp [isNone]
 | tr _=>simp [isNone]
 | dt _ _ _=>simp [isNone]
 | dk _ _=>simp [isNone]
 | fd _ _ _=>simp [isNone]
 | tk _=>simp [isNone]
 | dm _ _=>simp [isNone]
 | ex _=>simp [isNone]
def isN3:R3:=fun a b Q=>b=.sh true .none/\Q true (.bool (isNone a))
def notN3:R3:=fun a b Q=>b=.sh true .none/\Q true (.bool (!isNone a))
theorem zhE:OpOk X (compareOp .Is) isN3:=⟨fun a b Q Q' h ⟨e,q⟩=>⟨e,h _ _ q⟩,fun H0=>OpR.imp zjY fun x y H Q hyp=>by
 obtain⟨G,a,b,s,wa,wb,e,q⟩:=hyp;subst e;exact⟨zdp (zn wb).rd,by rw [zfE wa];exact q _ G H #[64] #[61]⟩⟩
theorem Jr:OpOk X (compareOp .IsNot) notN3:=⟨fun a b Q Q' h ⟨e,q⟩=>⟨e,h _ _ q⟩,fun H0=>OpR.imp zi3 fun x y H Q hyp=>by
 obtain⟨G,a,b,s,wa,wb,e,q⟩:=hyp;subst e;exact⟨zdp (zn wb).rd,by rw [zfE wa];exact q _ G H #[64] #[61]⟩⟩
def ixD:D->Int->Option D
 | .list ds,i=>atI ds i
 | .tuple ds,i=>atI ds i
 | .str z,i=>if z.length<=sizeLine then(atI z.cps.toList i).map fun c=>.str ⟨#[c]⟩ else none
 | _,_=>none
def ix3:R3:=fun a b Q=>match b with
 | .sh _ (.int i)=>a.dat=true/\∃ d,ixD a.d i=some d/\Q (a.f||zq d) d
 | _=>False
theorem zbs{K:Ybf}{H0 G:Hp}{f:Bool}{vs:List V}{ds:List D}{i:Int}{d:D}(r:Rfs K H0 G f vs ds)(h:atI ds i=some d):∃ v,atI vs i=some v/\Rf K H0 G f v d:=by
 unfold atI at *;rw [r.length];cases e:ixN ds.length i with
 | none=>rw [e] at h;cases h
 | some j=>
  rw [e] at h;obtain⟨x,hx,rx⟩:=r.get (i:=j) (show ds[j]?=some d from h)
  exact⟨x,hx,rx⟩
theorem IxR.imp{r r':R2}(h:IxR X r)(i:∀ x y H Q,r' x y H Q->r x y H Q):IxR X r':=fun e f pins s σ H x y v u Q I rx ry q z=>h e f pins s σ H x y v u Q I rx ry (i _ _ _ _ q) z
theorem ziP(H0:Hp):IxR X (ZD X.K H0 ix3):=IxR.imp zkz fun x y H Q=>el3 fun G a b s wa wb q=>by
 unfold ix3 at q;split at q
 . obtain⟨ha,d,hd,q⟩:=q
   rename_i i;cases zB (zn wb).rd;cases wa with
   | @sh v0 f d0 r=>
    cases d0 with
    | list ds=>
     obtain⟨a,xs,rfl,hq,rs⟩:=Zc r;obtain⟨v,hv,rv⟩:=zbs rs (show atI ds i=some d from hd)
     exact .inl ⟨_,_,_,v,rfl,rfl,s.seq hq,hv,q v G H #[64] rv.or⟩
    | tuple ds=>
     obtain⟨a,xs,rfl,hq,rs⟩:=Zm r;obtain⟨v,hv,rv⟩:=zbs rs (show atI ds i=some d from hd)
     exact .inr (.inl ⟨_,_,_,v,rfl,rfl,s.tup hq,hv,q v G H #[64] rv.or⟩)
    | str z=>
     cases JK r.rd
     have hd':(if z.length<=sizeLine then(atI z.cps.toList i).map fun c=>PyData.str ⟨#[c]⟩ else none)=some d:=hd
     split at hd'
     . rename_i hz
       cases e:atI z.cps.toList i with
       | none=>rw [e] at hd';cases hd'
       | some c=>
        rw [e] at hd';cases hd';exact .inr (.inr ⟨z,i,c,rfl,rfl,hz,e,q _ G H #[64] (.sc rfl (.str _))⟩)
     . cases hd'
    | _=>cases hd
   | ow h rs n=>
    obtain⟨v,hv,rv⟩:=zbs rs (show atI _ i=some d from hd)
    exact .inl ⟨_,_,_,v,rfl,rfl,SqL.of h,hv,q v G H #[64] rv.or⟩
   | tr h=>cases ha
   | dt _ _ _=>cases ha
   | dk _ _=>cases ha
   | fd _ _ _=>cases ha
   | tk h=>
    obtain⟨v,hv,rv⟩:=zbs (⟨ZL _,fun _=>zbD _⟩:Rfs _ _ _ true _ _) (show atI _ i=some d from hd)
    exact .inr (.inl ⟨_,_,_,v,rfl,rfl,s.tup (SqT.of h),hv,q v G H #[64] rv.or⟩)
   | dm _ _=>cases ha
   | ex h=>cases ha
 . exact q.elim
theorem zft:∀ a b (Q Q':Bool->D->Prop),(∀ f c,Q f c->Q' f c)->ix3 a b Q->ix3 a b Q':=fun a b Q Q' h q=>by
 unfold ix3 at *;split at q
 . obtain⟨x,d,e,q⟩:=q;exact⟨x,d,e,h _ _ q⟩
 . exact q
theorem at3{H0:Hp}{a b:Expr}{pos:Pos}{ta tb:TE3}(ha:PE3 X H0 a ta)(hb:PE3 X H0 b tb)(hs:za6 b):PE3 X H0 (.Subscript a b pos) (o3 ix3 ta tb):=
 ⟨ZI zft ha.mono hb.mono,PE.imp (zbM (ziP H0) ha.ok hb.ok hs) (zbh zft ha.mono hb.mono)⟩
abbrev TO3:=Env3->(Option Int->Prop)->Prop
def zm0(K:Ybf)(H0:Hp)(t:TO3):TO:=fun σ H Q=>∃ G0 ρ G,Fr3 K H0 G0 ρ σ G H/\t ρ fun o=>∀ G' H',Gr G H G' H'->Q o H'
structure PO3(X:Cx)(H0:Hp)(e:Option Expr)(t:TO3):Prop where
 mono:∀ ρ (Q Q':Option Int->Prop),(∀ c,Q c->Q' c)->t ρ Q->t ρ Q'
 ok:PO X e (zm0 X.K H0 t)
theorem PO.imp{e:Option Expr}{t t':TO}(h:PO X e t)(i:∀ σ H Q,t' σ H Q->t σ H Q):PO X e t':=fun pins s σ H Q I q=>h pins s σ H Q I (i _ _ _ q)
def no3:TO3:=fun _ Q=>Q none
def Zt(t:TE3):TO3:=fun ρ Q=>t ρ fun c=>∃ i,c=.sh true (.int i)/\Q (some i)
variable{H0:Hp}{pos p2:Pos}
theorem zi0:PO3 X H0 none no3:=⟨fun ρ Q Q' h q=>h _ q,PO.imp zny fun σ H Q=>el5 fun G0 ρ G F q=>q G H (Gr.refl F.sub)⟩
theorem zlZ{e:Expr}{t:TE3}(h:PE3 X H0 e t):PO3 X H0 (some e) (Zt t):=⟨fun ρ Q Q' hq q=>h.mono ρ _ _ (fun c ⟨i,e,q⟩=>⟨i,e,hq _ q⟩) q,PO.imp (zkj h.ok) fun σ H Q=>el5 fun G0 ρ G F q=>⟨G0,ρ,G,F,h.mono ρ _ _ (fun c hyp v G' H' g w=>by
 obtain⟨i,e,q⟩:=hyp;subst e;exact⟨i,zB (zn w).rd,q G' H' g⟩) q⟩⟩
def cut{α : Type}(xs:List α)(lo hi:Option Int):List α:=(xs.drop (HT.sIx xs.length 0 lo)).take (HT.sIx xs.length xs.length hi - HT.sIx xs.length 0 lo)
theorem SlR.imp{r r':V->Option Int->Option Int->Hp->VK->Prop}(h:SlR X r)(i:∀ x lo hi H Q,r' x lo hi H Q->r x lo hi H Q):SlR X r':=by
 unfold SlR at *;intros
 apply h<;>first|assumption|skip
 apply i;assumption
theorem zhY{K:Ybf}{H0 G:Hp}{f:Bool}{vs:List V}{ds:List D}(r:Rfs K H0 G f vs ds)(lo hi:Option Int):Rfs K H0 G f (cutV vs lo hi) (cut ds lo hi):=by
 unfold cutV cut;rw [r.length];exact(r.drop _).take _
def lenD:D->Option Nat
 | .list ds=>some ds.length
 | .tuple ds=>some ds.length
 | .str z=>if z.length<=sizeLine then some z.length else none
 | _=>none
def len3:C3:=fun cs Q=>match cs with
 | [c]=>c.dat=true/\∃ n,lenD c.d=some n/\Q true (.int n)
 | _=>False
theorem zD:CallOk X (.builtin "len") len3:=by
 refine⟨fun cs Q Q' h q=>?_,fun H0=>zG.imp (zG.or zkW zh0) fun xs H Q=>el2 fun G cs s w q=>?_⟩
 . unfold len3 at *;split at q
   . obtain⟨a,n,e,q⟩:=q;exact⟨a,n,e,h _ _ q⟩
   . exact q
 . unfold len3 at q;split at q
   . obtain⟨v,rfl,w1⟩:=vws1 w
     obtain⟨ha,n,hn,q⟩:=q;have r:=w1.rd s ha;generalize e:Cl.d _=d at r hn;cases r with
     | lst hq rs=>cases hn;exact .inl ⟨_,_,rfl,.inl hq,by rw [rs.length];exact q _ G H #[64] #[62]⟩
     | tup hq rs=>cases hn;exact .inl ⟨_,_,rfl,.inr hq,by rw [rs.length];exact q _ G H #[64] #[62]⟩
     | str z=>
      have hn':(if z.length<=sizeLine then some z.length else none)=some n:=hn
      split at hn'
      . rename_i hz;cases hn';exact .inr ⟨z,rfl,hz,q _ G H #[64] #[62]⟩
      . cases hn'
     | _=>cases hn
   . exact q.elim
def abs3:C3:=fun cs Q=>match cs with
 | [.sh _ (.int i)]=>Q true (.int (if i<0 then -i else i))
 | _=>False
theorem zb7:CallOk X (.builtin "abs") abs3:=by
 refine⟨fun cs Q Q' h q=>?_,fun H0=>zG.imp ziK fun xs H Q=>el2 fun G cs s w q=>?_⟩
 . unfold abs3 at *;split at q
   . exact h _ _ q
   . exact q
 . unfold abs3 at q;split at q
   . obtain⟨v,rfl,w1⟩:=vws1 w
     cases zB (zn w1).rd
     exact⟨_,rfl,q _ G H #[64] #[62]⟩
   . exact q.elim
def min23:C3:=fun cs Q=>match cs with
 | [.sh _ (.int i),.sh _ (.int j)]=>Q true (.int (if j<i then j else i))
 | _=>False
theorem zcI(hc:X.calm=true):CallOk X (.builtin "min") min23:=by
 refine⟨fun cs Q Q' h q=>?_,fun H0=>zG.imp (zm2 hc) fun xs H Q=>el2 fun G cs s w q=>?_⟩
 . unfold min23 at *;split at q
   . exact h _ _ q
   . exact q
 . unfold min23 at q;split at q
   . obtain⟨v,u,rfl,w1,w2⟩:=vws2 w
     cases zB (zn w1).rd;cases zB (zn w2).rd
     exact⟨_,_,rfl,q _ G H #[64] #[62]⟩
   . exact q.elim
end
end L3
namespace L2
open PySem PySem.Spec PyProof.Rows
def Itz(K:Ybf)(a b:Addr):It:=
 ⟨fun i H=>∃ xs ys x y,SqL K H a xs/\SqL K H b ys/\xs[i]?=some x/\ys[i]?=some y,
  fun i H v H'=>∃ p x y,H p=none/\v=.ref p/\H'=upd H p (.tup [x,y])/\∀ xs ys,SqL K H a xs->SqL K H b ys->xs[i]?=some x/\ys[i]?=some y,
  fun i H=>∃ xs ys,SqL K H a xs/\SqL K H b ys/\i=min xs.length ys.length⟩
theorem ziB{P:Program}{w:World}{K:Ybf}{elts:#[54]}{k:Nat}{pos:Pos}{z TI TO i1 i2 l1 l2:Addr}(D:ZipApart z TI TO i1 i2 l1 l2) :
 Turn P w K (.Tuple elts k pos) (Itz K l1 l2) [z,TI,TO,i1,i2] z (fun i h=>IsZip h z TI TO .none/\IsPair h TI (.ref i1) (.ref i2)/\(∃ a b,IsPair h TO a b)/\h.IsListIter i1 l1 i/\h.IsListIter i2 l2 i) where
 mem:=by simp
 obj:=fun i h hyp c hc=>by
  obtain⟨hz,hTI,⟨a,b,hTO⟩,⟨o1,e1,c1,d1⟩,⟨o2,e2,c2,d2⟩⟩:=hyp;have hc':c=z\/c=TI\/c=TO\/c=i1\/c=i2:=by simpa using hc
  rcases hc' with rfl|rfl|rfl|rfl|rfl
  . exact⟨_,hz,fun v z=>by cases(show Data.fields _=Data.cell v from z)⟩
  . exact⟨_,hTI,fun v z=>by cases(show Data.seq _ _=Data.cell v from z)⟩
  . exact⟨_,hTO,fun v z=>by cases(show Data.seq _ _=Data.cell v from z)⟩
  . exact⟨o1,e1,fun v z=>by rw [d1] at z;cases z⟩
  . exact⟨o2,e2,fun v z=>by rw [d2] at z;cases z⟩
 keep:=fun i h h' ⟨hz,hTI,⟨a,b,hTO⟩,h1,h2⟩ kk=>
  ⟨kk z (by simp) _ hz,kk TI (by simp) _ hTI,⟨a,b,kk TO (by simp) _ hTO⟩,h1.at fun o e=>kk i1 (by simp) o e,h2.at fun o e=>kk i2 (by simp) o e⟩
 item:=by
  intro X hP hw hK hc i pins s σ H E I hf st hg;subst hP hw hK;obtain⟨xs,ys,x,y,q1,q2,hx,hy⟩:=hg;obtain⟨its1,r1,p1,_⟩:=I.list q1;obtain⟨its2,r2,p2,_⟩:=I.list q2;obtain⟨u,hu,ru⟩:=r1.get hx;obtain⟨v,hv,rv⟩:=r2.get hy;have W:=WalksT.zip2 (prog:=X.prog) (w:=X.w) #[67] z TI TO i1 i2 l1 l2 D its1.toArray its2.toArray;have hi:i<min its1.toArray.size its2.toArray.size:=by
   have a1:=(Ya8.mp hu).1;have a2:=(Ya8.mp hv).1;simp only [YaZ];omega
  obtain⟨hz,hTI,hTO,h1,h2⟩:=st;have olt:∀ b∈[z,TI,TO,i1,i2],b<s.heap.objs.size:=fun b hb=>by
   obtain⟨a,b',hTO'⟩:=hTO;have hc':b=z\/b=TI\/b=TO\/b=i1\/b=i2:=by simpa using hb
   rcases hc' with rfl|rfl|rfl|rfl|rfl
   . exact YaX hz
   . exact YaX hTI
   . exact YaX hTO'
   . obtain⟨_,e,_⟩:=h1;exact YaX e
   . obtain⟨_,e,_⟩:=h2;exact YaX e
  refine W.item i s _ _ hi ⟨hz,hTI,hTO,h1,h2,p1.isList,p2.isList⟩ fun T vals h1' tk hv' hT hTup mid kp=>?_
  obtain⟨u',v',hu',hv'',e⟩:=hv';subst e;have eu:u'=u:=by
   have:its1[i]?=some u':=by simpa using hu'
   rw [hu] at this;cases this;rfl
  have ev:v'=v:=by
   have:its2[i]?=some v':=by simpa using hv''
   rw [hv] at this;cases this;rfl
  subst eu ev;refine⟨_,rfl,W.go elts k pos i T _ _ _ mid fun h2' st2 kp2=>?_⟩
  have sub:∀ b∈[z,TO,i1,i2],b∈[z,TI,TO,i1,i2]:=fun b hb=>by
   have hc':b=z\/b=TO\/b=i1\/b=i2:=by simpa using hb
   rcases hc' with rfl|rfl|rfl|rfl<;>simp
  have I1:Inv X pins σ H { s with heap:=h2',toks:=tk }:=I.turnedL (ch:=[z,TO,i1,i2]) (fun b o hb e=>kp2 b o hb (kp b o hb e)) fun b hb=>hf b (sub b hb)
  have hTn:H T=none:=I.hok.fresh hT;obtain⟨o,ho,oc,on,od⟩:=hTup;have ho2:=kp2 T o (W.apart i T _ mid) ho;have I2:Inv X pins σ (upd H T (.tup [x,y])) { s with heap:=h2',toks:=tk }:=I1.track hTn (Ya5 I.sz hT) (Wbx (YaU I.lt hT)) (fun n c e z=>by
   obtain⟨vv,q⟩:=I.cell n c e;exact absurd (YaU q.lt (by rw [z];exact hT)) (Yap _)) (fun p hp z=>absurd (YaU (YaX (I.pin p hp).1) (by rw [z];exact hT)) (Yap _))
   ⟨by show 2<=sizeLine;decide,[u',v'],.cons ru (.cons rv .nil),o,ho2,oc,on,od⟩
  refine⟨.ref T,_,I2,rfl,⟨T,x,y,hTn,rfl,rfl,fun xs' ys' z1 z2=>?_⟩,⟨st2.1,st2.2.1,st2.2.2.1,st2.2.2.2.1,st2.2.2.2.2.1⟩,fun b hb=>?_⟩
  . rw [I.list_inj z1 q1,I.list_inj z2 q2];exact⟨hx,hy⟩
  . rw [zj (Yaf (YaU (olt b hb) hT))];exact(hf b hb).1
 done:=by
  intro X hP hw hK hc i pins s σ H E I hf st hg;subst hP hw hK;obtain⟨xs,ys,q1,q2,hi⟩:=hg;obtain⟨its1,r1,p1,_⟩:=I.list q1;obtain⟨its2,r2,p2,_⟩:=I.list q2;have W:=WalksT.zip2 (prog:=X.prog) (w:=X.w) #[67] z TI TO i1 i2 l1 l2 D its1.toArray its2.toArray;obtain⟨hz,hTI,hTO,h1,h2⟩:=st;have ei:i=min its1.toArray.size its2.toArray.size:=by simp only [YaZ];rw [<-r1.length,<-r2.length];exact hi
  subst ei;refine W.done s _ _ ⟨hz,hTI,hTO,h1,h2,p1.isList,p2.isList⟩ fun h' tk kp=>⟨rfl,?_⟩
  exact I.turnedL (ch:=[z,TO,i1,i2]) kp fun b hb=>hf b (by
   have hc':b=z\/b=TO\/b=i1\/b=i2:=by simpa using hb
   rcases hc' with rfl|rfl|rfl|rfl<;>simp)
 self:=fun _ _ _ _ _ st h=>wpAny_pyIter_zip st.1 h
def iZip(K:Ybf)(ta:TA):TI:=fun σ H R=>ta σ H fun vs H1=>∃ a b,vs=[.ref a,.ref b]/\(∃ xs,SqL K H1 a xs)/\(∃ ys,SqL K H1 b ys)/\R (Itz K a b) H1
theorem zmN{X:Cx}{elts:#[54]}{k:Nat}{tpos:Pos}{a b:Expr}{ta:TA}{p pos:Pos}(hg:Gl X "zip")(hm:X.mg "zip" = none)(ha:PA X [a,b] ta)(hs:starEach [a,b] X.env=[#[42],#[41]]:=by rfl)
 (hs2:starEach [b] X.env=[#[41]]:=by rfl):PI X (.Tuple elts k tpos) (.Call (.Name "zip" p) [a,b] [] pos) (iZip X.K ta):=by
 intro pins s σ H R I h;refine Call_ (jU I hg hm znr (Wae (thn (ha pos pins s σ H _ I h) fun us s1 ⟨vs,H1,I1,r1,q1⟩=>?_) (by rw [hs,hs2]) (by rw [hs2];rfl)))
 obtain⟨l1,l2,e,⟨xs,hx⟩,⟨ys,hy⟩,q⟩:=q1;subst e;obtain⟨u,v,rfl,ru,rv⟩:=zcF r1;cases(show u=Value.ref l1 from ru)
 cases(show v=Value.ref l2 from rv)
 obtain⟨its1,_,p1,_⟩:=I1.list hx;obtain⟨its2,_,p2,_⟩:=I1.list hy;have lt1:l1<s1.heap.objs.size:=by obtain⟨o,e,_⟩:=p1.isList;exact YaX e
 have lt2:l2<s1.heap.objs.size:=by obtain⟨o,e,_⟩:=p2.isList;exact YaX e
 refine call_zip_2 p1.isList p2.isList fun h' hz hTI hTO hi1 hi2 hsz kp=>wpAny_pyIter_zip hz ?_
 have I2:Inv X pins σ H1 { s1 with heap:=h' }:=I1.kept (t':=s1.toks) kp
 have D:ZipApart (s1.heap.objs.size+4) (s1.heap.objs.size+2) (s1.heap.objs.size+3) s1.heap.objs.size (s1.heap.objs.size+1) l1 l2:=PySem.W.ktu_apart _ _ _ lt1 lt2;refine⟨_,[s1.heap.objs.size+4,s1.heap.objs.size+2,s1.heap.objs.size+3,s1.heap.objs.size,s1.heap.objs.size+1],_,Itz X.K l1 l2,H1,rfl,I2,ziB D,⟨hz,hTI,⟨_,_,hTO⟩,hi1,hi2⟩,fun b hb=>?_,q⟩
 have hb':s1.heap.objs.size<=b:=by
  have hc':b=s1.heap.objs.size+4\/b=s1.heap.objs.size+2\/b=s1.heap.objs.size+3\/b=s1.heap.objs.size\/b=s1.heap.objs.size+1:=by simpa using hb
  rcases hc' with rfl|rfl|rfl|rfl|rfl<;>first|exact YaY _|exact Nat.le_add_right _ _
 have f:=I1.fpOk (H':=H1) hb' (I1.hok.fresh hb');exact⟨f.1,f.2.1,f.2.2.1,f.2.2.2.1,f.2.2.2.2.1,f.2.2.2.2.2⟩
section
variable{X:Cx}
theorem zk3{us:#[28]}{ns:List Int}(h:IntsAre us ns):∃ xs:Array (Int×Tok),us.toArray=intItems xs/\xs.toList.map (·.1)=ns:=by
 obtain⟨xs,e⟩:=h.allInts.items;refine⟨xs,e,?_⟩;have e1:=h.numsOf;have e2:us=xs.toList.map fun p=>Value.int p.1 p.2:=by
  have:=congrArg Array.toList e
  simpa [intItems] using this
 rw [e2,numsOf_map] at e1;exact e1
theorem zlt(hc:X.calm=true):zG X (.builtin "sum") (fun xs H Q=>∃ (p:Addr) (ns:List Int),xs=[.ref p]/\SqL X.K H p (ns.map V.int)/\Q (.int ns.sum) H):=by
 intro pins s σ H xs us Q I r h;obtain⟨p,ns,rfl,hq,q⟩:=h;obtain⟨u,rfl,ru⟩:=jk r;cases(show u=Value.ref p from ru)
 obtain⟨its,rv,pl,_⟩:=I.list hq;obtain⟨ys,e1,e2⟩:=zk3 (zbp rv);have hl:=pl.isList;rw [e1] at hl;refine sum_intListG #[67] hl fun h' tk t' kp=>⟨.int ns.sum,H,I.kept (t':=tk) kp,⟨t',?_⟩,q⟩
 rw [preSum_eq,Wat (by simp),e2]
def isD:PyData->String->Option Bool
 | .int _,n=>if n = "int" then some true else if n = "bool" then some false else none
 | .tuple _,n=>if n = "tuple" then some true else none
 | .list _,n=>if n = "list" then some true else none
 | .str _,n=>if n = "str" then some true else none
 | .bool _,n=>if n = "bool" then some true else none
 | _,_=>none
def tyD:PyData->String
 | .int _=>"int"
 | .tuple _=>"tuple"
 | .list _=>"list"
 | .str _=>"str"
 | .bool _=>"bool"
 | _=>"NoneType"
theorem zj4{d:PyData}{n:String}{b:Bool}(h:isD d n=some b):isB (tyD d) n=some b:=by
 unfold isD at h
 split at h
 . split at h
   . rename_i e;subst e;cases h;rfl
   . split at h
     . rename_i e;subst e;cases h;rfl
     . cases h
 all_goals first
  | (split at h
     . rename_i e;subst e;cases h;rfl
     . cases h)
  | cases h
theorem zh9:zG X (.builtin "isinstance") (fun xs H Q=>∃ x n d b,xs=[x,.ty n]/\RdV X.K H x d/\isD d n=some b/\Q (.bl b) H):=by
 intro pins s σ H xs us Q I r h;obtain⟨x,n,d,b,rfl,rd,hb,q⟩:=h;obtain⟨u,c,rfl,rx,rc⟩:=zcF r;cases(show c=Value.type n from rc)
 have e:=zkY (K:=X.K) (zj4 hb);have fin:∀ tk,EP X pins σ Q (.bool b) { s with toks:=tk }:=fun tk=>⟨.bl b,H,I.tok tk,rfl,q⟩
 cases rd with
 | non=>cases hb
 | bl y=>cases(show u=Value.bool y from rx);exact Wbd PySem.W.kitx_bool I.kIn True.intro e (fun z=>nomatch z) fin
 | int i=>obtain⟨t,q⟩:=(show ∃ t,u=Value.int i t from rx);cases q;exact Wbd PySem.W.kitx_int I.kIn True.intro e (fun z=>nomatch z) fin
 | str y=>obtain⟨t,q⟩:=(show ∃ t,u=Value.str y t from rx);cases q;exact Wbd PySem.W.kitx_str I.kIn True.intro e (fun z=>nomatch z) fin
 | lst hq rs=>
  cases rx;obtain⟨its,rv,⟨o,n,ho,hc,_,hd⟩,_⟩:=I.list hq
  exact Wbd PySem.W.kitx_list I.kIn ⟨o,ho,hc⟩ e (fun z=>nomatch z) fin
 | tup hq rs=>
  cases rx;obtain⟨its,rv,⟨o,ho,hc,n,hd⟩,_⟩:=I.tuple hq
  exact Wbd PySem.W.kitx_tuple I.kIn ⟨o,ho,hc⟩ e (fun z=>nomatch z) fin
end
section
variable{X:Cx}
theorem zdQ:∀ {bs:List Bool} {us:#[28]},Vals (bs.map V.bl) us->us=bs.map Value.bool
 | [],_,.nil=>rfl
 | b :: bs, _, .cons r t => by
  have e:=zdQ (bs:=bs) t;rw [e];cases(show _=Value.bool b from r)
  rfl
theorem zhL(bs:List Bool):((List.range bs.length).all fun i=>bs.getD i false)=bs.all id:=by
 rw [Wbb,Wa3,Wa3]
 constructor
 . intro h b hb
   obtain⟨i,hi,rfl⟩:=List.mem_iff_getElem.mp hb;have:=h i (Yba.mpr hi);rw [YaP,YaQ hi] at this;exact this
 . intro h i hi
   have hi':=Yba.mp hi;rw [YaP,YaQ hi'];exact h _ (Ya4 hi')
theorem zjl(hc:X.calm=true):zG X (.builtin "all") (fun xs H Q=>∃ (p:Addr) (bs:List Bool),xs=[.ref p]/\SqL X.K H p (bs.map V.bl)/\Q (.bl (bs.all id)) H):=by
 intro pins s σ H xs us Q I r h;obtain⟨p,bs,rfl,hq,q⟩:=h;obtain⟨u,rfl,ru⟩:=jk r;cases(show u=Value.ref p from ru)
 obtain⟨its,rv,pl,_⟩:=I.list hq;cases zdQ rv;have hl:=pl.isList;have hlt:p<s.heap.objs.size:=by obtain⟨_,e,_⟩:=hl;exact YaX e
 refine call_all_walk (wpAny_pyIter_list hl ⟨_,_,_,_,_,_,fun i=>bs.getD i false,rfl,Walks.list (A:=X.A.in1) #[67] _ p (Yaf hlt) _,⟨⟨_,Yan _ rfl,rfl,rfl⟩,hl.push _⟩,fun i v s' Q' E' hP hQ=>?_,fun h' tk kp=>?_⟩)
 . have e:(bs.map Value.bool)[i]?=some v:=by simpa using hP
   rw [Ya0] at e;cases eb:bs[i]? with
   | none=>rw [eb] at e;cases e
   | some b=>
    rw [eb] at e;cases e;have:bs.getD i false=b:=by rw [YaP,eb];rfl
    have hQ':Q' (bs.getD i false) s':=hQ;rw [this] at hQ';exact wpAny_truthy_bool hQ'
 . refine⟨.bl (bs.all id),H,I.kept (t':=tk) (old_kept kp),?_,q⟩
   show Value.bool _=Value.bool _
   rw [show(bs.map Value.bool).toArray.size=bs.length by simp,zhL]
end
end L2
namespace L3
open PySem PySem.Spec PyProof.Rows L2
variable[LamW]
section
variable{X:Cx}{H0:Hp}{pos p:Pos}{e:Expr}
def JF:List D->Option #[23]
 | []=>some []
 | .int i::r=>(JF r).map (i :: ·)
 | _::_=>none
def JG:List D->Option (List Bool)
 | []=>some []
 | .bool i::r=>(JG r).map (i :: ·)
 | _::_=>none
theorem JA(ns:List Int):JF (ns.map .int)=some ns:=by
 induction ns with
 | nil=>rfl
 | cons a r ih=>simp [JF,ih]
theorem zlJ(ns:List Bool):JG (ns.map .bool)=some ns:=by
 induction ns with
 | nil=>rfl
 | cons a r ih=>simp [JG,ih]
theorem zms{K:Ybf}{G:Hp}{vs:List V}{ds:List D}{ns:List Int}(r:RdVs K G vs ds)(e:JF ds=some ns):vs=ns.map V.int:=by
 induction vs generalizing ds ns with
 | nil=>cases r;cases e;rfl
 | cons v vs ih=>
  cases r with
  | @cons _ _ d ds a b=>
   cases d with
   | int i=>
    have e':(JF ds).map (i :: ·)=some ns:=e;cases q:JF ds with
    | none=>rw [q] at e';cases e'
    | some ms=>
     rw [q] at e';cases e';rw [Ya1,ih b q,zB a]
   | _=>cases e
theorem zih{K:Ybf}{G:Hp}{vs:List V}{ds:List D}{ns:List Bool}(r:RdVs K G vs ds)(e:JG ds=some ns):vs=ns.map V.bl:=by
 induction vs generalizing ds ns with
 | nil=>cases r;cases e;rfl
 | cons v vs ih=>
  cases r with
  | @cons _ _ d ds a b=>
   cases d with
   | bool i=>
    have e':(JG ds).map (i :: ·)=some ns:=e;cases q:JG ds with
    | none=>rw [q] at e';cases e'
    | some ms=>
     rw [q] at e';cases e';rw [Ya1,ih b q,zbG a]
   | _=>cases e
theorem Jf{K:Ybf}{H0 G H:Hp}{v:V}{c:Cl}{ds:List D}(w:Vw K H0 G H v c)(s:Sub G H)(hd:c.dat=true)(h:c.d=.list ds):∃ a vs,v=.ref a/\SqL K H a vs/\Rfs K H0 G c.f vs ds:=by
 cases w with
 | sh r=>
  have h':_=PyData.list ds:=h;subst h';obtain⟨a,xs,rfl,hq,rs⟩:=Zc r;exact⟨a,xs,rfl,s.seq hq,rs⟩
 | ow hh r n=>cases h;exact⟨_,_,rfl,SqL.of hh,r⟩
 | tr hh=>cases hd
 | dt _ _ _=>cases hd
 | dk _ _=>cases hd
 | fd _ _ _=>cases hd
 | tk _=>cases h
 | dm _ _=>cases hd
 | ex hh=>cases hd
def sum3:C3:=fun cs Q=>match cs with
 | [c]=>c.dat=true/\∃ ds ns,c.d=.list ds/\JF ds=some ns/\Q true (.int ns.sum)
 | _=>False
theorem Ju(hc:X.calm=true):CallOk X (.builtin "sum") sum3:=by
 refine⟨fun cs Q Q' h q=>?_,fun H0=>zG.imp (zlt hc) fun xs H Q=>el2 fun G cs s w q=>?_⟩
 . unfold sum3 at *;split at q
   . obtain⟨a,ds,ns,h1,h2,q⟩:=q;exact⟨a,ds,ns,h1,h2,h _ _ q⟩
   . exact q
 . unfold sum3 at q;split at q
   . obtain⟨v,rfl,w1⟩:=vws1 w
     obtain⟨a,ds,ns,h1,h2,q⟩:=q;obtain⟨l,vs,rfl,hq,rs⟩:=Jf w1 s a h1;cases zms rs.rd h2;exact⟨l,ns,rfl,hq,q _ G H #[64] #[62]⟩
   . exact q.elim
def all3:C3:=fun cs Q=>match cs with
 | [c]=>c.dat=true/\∃ ds bs,c.d=.list ds/\JG ds=some bs/\Q true (.bool (bs.all id))
 | _=>False
theorem zg7(hc:X.calm=true):CallOk X (.builtin "all") all3:=by
 refine⟨fun cs Q Q' h q=>?_,fun H0=>zG.imp (zjl hc) fun xs H Q=>el2 fun G cs s w q=>?_⟩
 . unfold all3 at *;split at q
   . obtain⟨a,ds,ns,h1,h2,q⟩:=q;exact⟨a,ds,ns,h1,h2,h _ _ q⟩
   . exact q
 . unfold all3 at q;split at q
   . obtain⟨v,rfl,w1⟩:=vws1 w
     obtain⟨a,ds,ns,h1,h2,q⟩:=q;obtain⟨l,vs,rfl,hq,rs⟩:=Jf w1 s a h1;cases zih rs.rd h2;exact⟨l,ns,rfl,hq,q _ G H #[64] #[61]⟩
   . exact q.elim
def ZX(t:TA3):TN3:=fun ρ Q=>t ρ fun cs=>∃ c ds,cs=[c]/\c.dat=true/\(c.d=.list ds\/c.d=.tuple ds)/\Q (c.f||ds.all zq) ds
theorem zbT{x:Str}{es:#[54]}{t:TA3}(hg:Gl X x)(hm:X.mg x=none)(hv:bootBuiltins x=some (.type "list"))(ha:PA3 X H0 (e::es) t)(hn:x≠"__name__":=by decide)(hdb:#[21]:=by decide)
 (he:#[14]:=by rfl) (hpl:(backTo pos #[46]).any (·.1)=false:=by rfl):PN3 X H0 #[30] (ZX t):=
 ⟨fun ρ Q Q' h q=>ha.mono ρ _ _ (fun cs ⟨c,ds,a,b,d,q⟩=>⟨c,ds,a,b,d,h _ _ q⟩) q,PE.imp (ZY zl4 hg hm hv ha.ok hn hdb he hpl) fun σ H Q=>el5 fun G0 ρ G F q=>⟨G0,ρ,G,F,ha.mono ρ _ _ (fun cs hyp vs G1 H1 g1 w=>by
  obtain⟨c,ds,a,b,d,k⟩:=hyp;subst a;obtain⟨v,rfl,w1⟩:=vws1 w
  rcases d with d|d
  . obtain⟨l,us,rfl,hq,rs⟩:=Jf w1 g1.sub b d
    exact⟨l,us,rfl,.inl hq,fun l' hl=>k l' us G1 H1 g1 hl rs.or⟩
  . cases w1 with
    | sh r=>
     have d':_=PyData.tuple ds:=d;subst d';obtain⟨l,us,rfl,hq,rs⟩:=Zm r;exact⟨l,us,rfl,.inr (g1.sub.tup hq),fun l' hl=>k l' us G1 H1 g1 hl rs.or⟩
    | ow _ _ _=>cases d
    | tr _=>cases d
    | dt _ _ _=>cases d
    | dk _ _=>cases d
    | fd _ _ _=>cases d
    | tk h=>
     cases d;exact⟨_,_,rfl,.inr (g1.sub.tup (SqT.of h)),fun l' hl=>k l' _ G1 H1 g1 hl (⟨ZL _,fun _=>zbD _⟩:Rfs _ _ _ true _ _).or⟩
    | dm _ _=>cases b
    | ex _=>cases b) q⟩⟩
def catN(ta tb:TE3):TN3:=fun ρ Q=>ta ρ fun a=>tb ρ fun b=>∃ ds es,a.dat=true/\b.dat=true/\a.d=.list ds/\b.d=.list es/\ds.length+es.length<=sizeLine/\Q ((a.f||ds.all zq)&&(b.f||es.all zq)) (ds++es)
theorem zkC:OpR X (binaryOp .Add) (fun x y H Q=>∃ l b xs zs,x=.ref l/\y=.ref b/\SqL X.K H l xs/\SqL X.K H b zs/\xs.length+zs.length<=sizeLine/\∀ p,H p=none->Q (.ref p) (upd H p (.lst (xs++zs)))):=by
 intro pins s σ H x y v u Q I rx ry h;obtain⟨l,b,xs,zs,rfl,rfl,hl,hb,hz,k⟩:=h;cases rx;cases ry;obtain⟨its,rv,pl,_⟩:=I.list hl;obtain⟨its',rv',pl',_⟩:=I.list hb;obtain⟨⟨cls,dd,data,sl⟩,ho,hc,n,hd⟩:=pl.isList;obtain⟨⟨cls2,dd2,data2,sl2⟩,ho2,hc2,n2,hd2⟩:=pl'.isList;simp only at hc hd hc2 hd2;subst hc hd hc2 hd2;have e:its.toArray++its'.toArray=(its++its').toArray:=by simp
 refine concat_meets ⟨_,ho,rfl⟩ ⟨_,ho2,rfl⟩ noFill_list_add seq_list_add PySem.F.slot_list_add PySem.F.entry_list_add (PySem.F.args_list_add_2 _ _) (list_addW l b its.toArray its'.toArray n n2 dd dd2 sl sl2 (by rw [YaZ,YaZ,<-rv.length,<-rv'.length];exact hz)) ⟨ho,ho2,?_⟩
 rw [e];exact⟨.ref _,_,I.lnew (t':=s.toks) (rv.append rv') (by rw [YaS];exact hz),rfl,k _ I.fresh⟩
theorem cat3{a b:Expr}{ta tb:TE3}(ha:PE3 X H0 a ta)(hb:PE3 X H0 b tb):PN3 X H0 (.BinOp a .Add b pos) (catN ta tb):=
 ⟨fun ρ Q Q' h q=>ha.mono ρ _ _ (fun a=>hb.mono ρ _ _ fun b ⟨ds,es,h1,h2,h3,h4,h5,q⟩=>⟨ds,es,h1,h2,h3,h4,h5,h _ _ q⟩) q,PE.imp (zd2 zkC ha.ok hb.ok) fun σ H Q=>el5 fun G0 ρ G F q=>⟨G0,ρ,G,F,ha.mono ρ _ _ (fun a qa v1 G1 H1 g1 w1=>⟨G0,ρ,G1,F.gr g1,hb.mono ρ _ _ (fun b hyp v2 G2 H2 g2 w2=>by
  obtain⟨ds,es,h1,h2,h3,h4,h5,k⟩:=hyp;obtain⟨l,us,rfl,hq,rs⟩:=Jf (w1.gr g2) g2.sub h1 h3;obtain⟨m,us',rfl,hq',rs'⟩:=Jf w2 g2.sub h2 h4;exact⟨l,m,us,us',rfl,rfl,hq,hq',by rw [rs.length,rs'.length];exact h5,fun p hp=>k p _ G2 H2 (g1.trans g2) hp (rs.or.append rs'.or)⟩) qa⟩) q⟩⟩
def zau(n:String)(te:TE3):TE3:=fun ρ Q=>te ρ fun c=>∃ b,c.dat=true/\L2.isD c.d n=some b/\Q (.sh true (.bool b))
theorem Jl{nf:Str}{n:String}{x:Str}{p2:Pos}{te:TE3}(hg:Gl X nf)(hm:X.mg nf=none)(hnf:nf = "isinstance")(hg2:Gl X x)(hm2:X.mg x=none)(hv:bootBuiltins x=some (.type n))(he:PE3 X H0 e te)(hn:x≠"__name__":=by decide)
 (h1:starEach [e,.Name x p2] X.env=(false,eval e X.env)::starEach [.Name x p2] X.env:=by rfl) (h2:starEach [.Name x p2] X.env=(false,eval (.Name x p2) X.env)::starEach [] X.env:=by rfl)
 (hpl:(backTo pos (starEach [.Name x p2] X.env)).any (·.1)=false:=by rfl) (hdx:#[21]:=by decide):PE3 X H0 (.Call (.Name nf p) [e,.Name x p2] [] pos) (zau n te):=by
 subst hnf;exact⟨fun ρ Q Q' h q=>he.mono ρ _ _ (fun c ⟨b,a,d,q⟩=>⟨b,a,d,h _ q⟩) q,PE.imp (JX (x:="isinstance") zh9 hg hm zlq (jn he.ok (jn (zlc (v:=.ty n) hg2 hm2 hv rfl hn hdx) jE h2) h1) #[1] #[1] h1 hpl) fun σ H Q=>el5 fun G0 ρ G F q=>⟨G0,ρ,G,F,he.mono ρ _ _ (fun c ⟨b,hd,hb,k⟩ v G1 H1 g1 w=>
  ⟨v,n,c.d,b,rfl,w.rd g1.sub hd,hb,k _ G1 H1 g1 (.sh (.sc rfl (.bl b)))⟩) q⟩⟩
def zipD:List D->List D->List D
 | a::as,b::bs=>.tuple [a,b]::zipD as bs
 | _,_=>[]
theorem zeG:∀ as bs,(zipD as bs).length=min as.length bs.length
 | [],_=>by simp [zipD]
 | _::_,[]=>by simp [zipD]
 | a::as,b::bs=>by simp [zipD,zeG as bs,Nat.succ_min_succ]
theorem zfm:∀ {as bs:List D} {i:Nat} {d:D},(zipD as bs)[i]?=some d->∃ a b,d=.tuple [a,b]/\as[i]?=some a/\bs[i]?=some b
 | [],_,i,d,h=>by simp [zipD] at h
 | _::_,[],i,d,h=>by simp [zipD] at h
 | a::as,b::bs,0,d,h=>by cases h;exact⟨a,b,rfl,rfl,rfl⟩
 | a :: as, b :: bs, i + 1, d, h => by
  obtain⟨x,y,h1,h2,h3⟩:=zfm (i:=i) (show(zipD as bs)[i]?=some d from h)
  exact⟨x,y,h1,h2,h3⟩
def itZ(t:TA3):TI3:=fun ρ Q=>t ρ fun cs=>∃ f g as bs,cs=[.sh f (.list as),.sh g (.list bs)]/\Q (f&&g) (zipD as bs)
theorem zjZ{K:Ybf}{H0 G:Hp}{a b:Addr}{xs ys:List V}{f g:Bool}{as bs:List D}(h1:SqL K G a xs)(r1:Rfs K H0 G f xs as)(h2:SqL K G b ys)(r2:Rfs K H0 G g ys bs):ItOk K H0 (Itz K a b) (f&&g) (zipD as bs) G where
 go:=fun i d G' H hd s1 s2=>by
  obtain⟨p,q,rfl,hp,hq⟩:=zfm hd;obtain⟨x,hx,rx⟩:=r1.get hp;obtain⟨y,hy,ry⟩:=r2.get hq;have ss:=s1.trans s2.s;refine⟨⟨xs,ys,x,y,ss.seq h1,ss.seq h2,hx,hy⟩,fun v H' ⟨l,x',y',hl,e1,e2,hh⟩=>?_⟩
  subst e1 e2;obtain⟨z1,z2⟩:=hh xs ys (ss.seq h1) (ss.seq h2);rw [hx] at z1;rw [hy] at z2;cases z1;cases z2;have gl:=zT (s2.free hl) (.tup [x,y]);exact⟨upd G' l (.tup [x,y]),Gr.put s2 hl,⟨.tup (SqT.of zt) (.cons (J4 (s1.trans gl) rx.rd) (.cons (J4 (s1.trans gl) ry.rd) .nil)),fun hf=>by
   rw [Yak] at hf;exact .tup zt (.cons (jM (s1.trans gl) (fun _ _ _ z=>z) (rx.nw hf.1)) (.cons (jM (s1.trans gl) (fun _ _ _ z=>z) (ry.nw hf.2)) .nil))⟩⟩
 stop:=fun i G' H hl s1 s2=>⟨xs,ys,(s1.trans s2.s).seq h1,(s1.trans s2.s).seq h2,by rw [hl,zeG,r1.length,r2.length]⟩
theorem ziz{elts:#[54]}{k:Nat}{tpos:Pos}{a b:Expr}{t:TA3}(hg:Gl X "zip")(hm:X.mg "zip" = none)(ha:PA3 X H0 [a,b] t)(hs:starEach [a,b] X.env=[#[42],#[41]]:=by rfl)
 (hs2:starEach [b] X.env=[#[41]]:=by rfl):PI3 X H0 (.Tuple elts k tpos) (.Call (.Name "zip" p) [a,b] [] pos) (itZ t):=
 ⟨fun ρ Q Q' h q=>ha.mono ρ _ _ (fun cs ⟨f,g,as,bs,e,q⟩=>⟨f,g,as,bs,e,h _ _ q⟩) q,PI.imp (zmN hg hm ha.ok hs hs2) fun σ H R=>el5 fun G0 ρ G F q=>⟨G0,ρ,G,F,ha.mono ρ _ _ (fun cs hyp vs G' H' g w=>by
  obtain⟨fl,fm,as,bs,e,k⟩:=hyp;subst e;obtain⟨v,u,rfl,w1,w2⟩:=vws2 w;obtain⟨x,xs,rfl,hx,rx⟩:=Zc (zn w1);obtain⟨y,ys,rfl,hy,ry⟩:=Zc (zn w2);exact⟨x,y,rfl,⟨xs,g.sub.seq hx⟩,⟨ys,g.sub.seq hy⟩,k _ G' H' g (zjZ hx rx hy ry)⟩) q⟩⟩
end
variable[LamW]
section
variable{K:Ybf}{H0 G0:Hp}{ρ : Env3}{σ : L2.St}{G H:Hp}
theorem Fr3.exc(F:#[26]){i:Nat}{a C:Addr}(h:H a=some (excO a C)):Fr3 K H0 G0 (ρ.set i (some (.ex C))) (σ.set i (some (.ref a))) G H:=F.put (zz.refl _) (.ex h) fun _ h=>False.elim h
end
theorem PX.imp{X:Cx}{e:List Stmt}{t t':TX}(h:PX X e t)(i:∀ B E σ H,t' B E σ H->t B E σ H):PX X e t':=fun pins s σ H B E I q=>h pins s σ H B E I (i _ _ _ _ q)
section
variable{X:Cx}{H0:Hp}{pos pos' p:Pos}{e:Expr}{es:#[54]}{x:Str}
end
variable[LamW]
theorem JL{P:Program}{w:World}{X:Cx}:Passes (CXR P w) X (fun _ _ _=>False):=fun _ _ _ _ _ _ _ ⟨_,_,_,_,_,h⟩=>h.elim
section
variable{X:Cx}{H0:Hp}{pos:Pos}{x:Str}
theorem g3i{i:Int}(hg:Gl X x)(hm:∃ t,X.mg x=some (.int i t))(hd:#[21]:=by decide):PE3 X H0 (.Name x pos) (k3 (.int i)):=by
 obtain⟨t,hm⟩:=hm;exact g3 (v:=.int i) hg hm ⟨t,rfl⟩ (fun _=>.int i) rfl hd
theorem g3s{i:Str}(hg:Gl X x)(hm:∃ t,X.mg x=some (.str i t))(hd:#[21]:=by decide):PE3 X H0 (.Name x pos) (k3 (.str i)):=by
 obtain⟨t,hm⟩:=hm;exact g3 (v:=.str i) hg hm ⟨t,rfl⟩ (fun _=>.str i) rfl hd
end
theorem sz{n:Nat}(h:n<=1000000):n<=sizeLine:=Ya5 h #[1]
theorem sz0:(0<=sizeLine)=True:=eq_true #[1]
theorem sz1:(1<=sizeLine)=True:=eq_true #[1]
theorem sz2:(2<=sizeLine)=True:=eq_true #[1]
theorem sz3:(3<=sizeLine)=True:=eq_true #[1]
theorem sz4:(4<=sizeLine)=True:=eq_true #[1]
theorem zcz{K:Ybf}{H:Hp}:∀ ns:List Int,RdVs K H (ns.map V.int) (ns.map PyData.int)
 | []=>.nil
 | a::r=>.cons (.int a) (zcz r)
theorem JW{g:TG3}{tb:TS3}{A:Ends3}{f:Bool}(P:List D->Env3->Prop)(s:∀ d ds ρ,P (d::ds) ρ->∀ W:Env3->Prop,(∀ ρ',P ds ρ'->W ρ')->g f d ρ fun ρ'=>tb { A with nx:=W,ct:=W,bk:=A.nx } ρ')(e:∀ ρ,P [] ρ->A.nx ρ):∀ ds ρ,P ds ρ->forL g tb A f ds ρ
 | [],ρ,h=>e ρ h
 | d::ds,ρ,h=>s d ds ρ h _ fun ρ' p=>JW P s e ds ρ' p
theorem zf{a b:TS3}{A:Ends3}{ρ : Env3}(h:∀ N:Env3->Prop,(∀ ρ',b A ρ'->N ρ')->a { A with nx:=N } ρ):seq3 a b A ρ:=h (b A) fun _ z=>z
theorem zP{a b:TS3}{A:Ends3}{ρ : Env3}(M:Env3->Prop)(h1:∀ N:Env3->Prop,(∀ ρ',M ρ'->N ρ')->a { A with nx:=N } ρ)(h2:∀ ρ',M ρ'->b A ρ'):seq3 a b A ρ:=h1 (b A) h2
theorem jJ{c:TT3}{t u:TS3}{A:Ends3}{ρ : Env3}(h:∀ Y N:Prop,(t A ρ->Y)->(u A ρ->N)->c ρ fun k=>if k=true then Y else N):ifS3 c t u A ρ:=h (t A ρ) (u A ρ) id id
theorem JP{c:TT3}{tb:TS3}{A:Ends3}(P:Nat->Env3->Prop)(h:∀ n ρ,P n ρ->∀ W:Env3->Prop,(∀ m ρ',m<n->P m ρ'->W ρ')->c ρ fun k=>if k=true then tb { A with nx:=W,ct:=W,bk:=A.nx } ρ else A.nx ρ):∀ n ρ,P n ρ->whN c tb A (n+1) ρ
 | n, ρ, p => by
  have key:∀ k m ρ,m<=k->P m ρ->whN c tb A (k+1) ρ:=by
   intro k
   induction k with
   | zero=>intro m ρ hm p;exact h m ρ p _ (fun m' ρ' hlt _=>absurd hlt #[0])
   | succ k ih=>intro m ρ hm p;exact h m ρ p _ (fun m' ρ' hlt p'=>ih m' ρ' #[0] p')
  exact key n n ρ (YaY _) p
variable[LamW]
theorem z5{α : Type}{g:TG3}{tt:TT3}{te:TE3}{f:Bool}(enc out:α->D)(R:Env3->Prop):∀ (xs:List α),(∀ x∈xs,∀ ρ fa acc (K:Bool->List D->Env3->Prop),R ρ->(∀ ρ',R ρ'->K fa (acc++[out x]) ρ')->
 g f (enc x) ρ fun ρ'=>tt ρ' fun k=>if k=true then te ρ' fun c=>asS c fun fy y=>K (fa&&fy) (acc++[y]) ρ' else K fa acc ρ')->∀ fa acc ρ (Q:Bool->List D->Prop),R ρ->Q fa (acc++xs.map out)->jm g tt te f (xs.map enc) fa acc ρ Q
 | [],_,fa,acc,ρ,Q,_,q=>by show Q fa acc;simpa using q
 | x::xs,s,fa,acc,ρ,Q,hR,q=>s x YaV ρ fa acc (fun fa acc ρ'=>jm g tt te f (xs.map enc) fa acc ρ' Q) hR fun ρ' hR'=>
  z5 enc out R xs (fun y hy=>s y (YaT _ hy)) fa (acc++[out x]) ρ' Q hR' (by rw [Yag];exact q)
theorem zbb{α : Type}{g:TG3}{tt:TT3}{te:TE3}{f:Bool}(enc out:α->D)(keep:α->Bool)(R:Env3->Prop):∀ (xs:List α),(∀ x∈xs,∀ ρ fa acc (K:Bool->List D->Env3->Prop),R ρ->(∀ ρ',R ρ'->K fa (if keep x=true then acc++[out x] else acc) ρ')->
 g f (enc x) ρ fun ρ'=>tt ρ' fun k=>if k=true then te ρ' fun c=>asS c fun fy y=>K (fa&&fy) (acc++[y]) ρ' else K fa acc ρ')->∀ fa acc ρ (Q:Bool->List D->Prop),R ρ->Q fa (acc++(xs.filter keep).map out)->jm g tt te f (xs.map enc) fa acc ρ Q
 | [],_,fa,acc,ρ,Q,_,q=>by show Q fa acc;simpa using q
 | x::xs,s,fa,acc,ρ,Q,hR,q=>s x YaV ρ fa acc (fun fa acc ρ'=>jm g tt te f (xs.map enc) fa acc ρ' Q) hR fun ρ' hR'=>
  zbb enc out keep R xs (fun y hy=>s y (YaT _ hy)) fa _ ρ' Q hR' (by
   rw [YaM] at q;cases hk:keep x with
   | true=>rw [hk] at q;simpa using q
   | false=>rw [hk] at q;simpa using q)
theorem zdC{α β : Type}(e1:α->D)(e2:β->D):∀ (xs:List α) (ys:List β),zipD (xs.map e1) (ys.map e2)=(xs.zip ys).map fun p=>.tuple [e1 p.1,e2 p.2]
 | [],_=>by simp [zipD]
 | _::_,[]=>by simp [zipD]
 | x::xs,y::ys=>by simp [zipD,zdC e1 e2 xs ys]
theorem Zd{α β : Type}(e:α->β)(xs:List α)(i:Int):atI (xs.map e) i=(atI xs i).map e:=by
 unfold atI;rw [YaR];cases ixN xs.length i with
 | none=>rfl
 | some j=>simp
end L3
namespace L3
theorem zk8(lo:Int)(n:Nat):nums lo (n+1)=.int lo::nums (lo+1) n:=by
 unfold nums;rw [Wau,Ya1,YaD]
 congr 1
 . simp
 . apply Yat
   intro i _;simp only [Function.comp]
   congr 1
   omega
theorem zg1(lo st:Int)(n:Nat):j8 lo st (n+1)=.int lo::j8 (lo+st) st n:=by
 unfold j8;rw [Wau,Ya1,YaD]
 congr 1
 . simp
 . apply Yat
   intro i _;simp only [Function.comp]
   congr 1
   rw [Int.natCast_succ,WbG];omega
theorem jf{g:TG3}{tb:TS3}{A:Ends3}{f:Bool}{lo:Int}{n:Nat}(P:Nat->Env3->Prop)(s:∀ k ρ,k<n->P k ρ->∀ W:Env3->Prop,(∀ ρ',P (k+1) ρ'->W ρ')->g f (.int (lo+k)) ρ fun ρ'=>tb { A with nx:=W,ct:=W,bk:=A.nx } ρ')(e:∀ ρ,P n ρ->A.nx ρ){ρ : Env3}(h:P 0 ρ):forL g tb A f (nums lo n) ρ:=by
 have key:∀ m k ρ,k+m=n->P k ρ->forL g tb A f (nums (lo+k) m) ρ:=by
  intro m
  induction m with
  | zero => intro k ρ hk p; have : k = n := by omega
            subst this;exact e ρ p
  | succ m ih=>
   intro k ρ hk p;rw [zk8];refine s k ρ #[0] p _ fun ρ' p'=>?_
   have:=ih (k+1) ρ' #[0] p'
   rw [show lo+((k+1:Nat):Int)=lo+k+1 by omega] at this
   exact this
 have:=key n 0 ρ #[0] h
 simpa using this
theorem je{α : Type}{g:TG3}{tb:TS3}{A:Ends3}{f:Bool}(enc:α->D)(l:List α)(P:List α->Env3->Prop)(s:∀ done x rest ρ,l=done++x::rest->P done ρ->∀ W:Env3->Prop,(∀ ρ',P (done++[x]) ρ'->W ρ')->g f (enc x) ρ fun ρ'=>tb { A with nx:=W,ct:=W,bk:=A.nx } ρ')(e:∀ ρ,P l ρ->A.nx ρ){ρ : Env3}(h:P [] ρ):forL g tb A f (l.map enc) ρ:=by
 have key:∀ rest done ρ,l=done++rest->P done ρ->forL g tb A f (rest.map enc) ρ:=by
  intro rest
  induction rest with
  | nil=>intro done ρ hl p;rw [Yao] at hl;subst hl;exact e ρ p
  | cons x rest ih=>
   intro done ρ hl p;exact s done x rest ρ hl p _ fun ρ' p'=>ih (done++[x]) ρ' (by rw [hl,Yag];rfl) p'
 exact key l [] ρ rfl h
end L3
namespace L3
open PySem L2
mutual
theorem zaW:∀ {d:D},PyData.canLay0 d=true->PyData.eqv d d=true
 | .none,_=>by simp [PyData.eqv]
 | .bool b,_=>by simp [PyData.eqv]
 | .int i,_=>by simp [PyData.eqv]
 | .str x,_=>by simp [PyData.eqv]
 | .list xs, h => by
  have h':PyData.canLayAll0 xs=true:=by simpa [PyData.canLay0] using h
  simpa [PyData.eqv] using eqvAll_refl h'
 | .tuple xs, h => by
  have h':PyData.canLayAll0 xs=true:=by simpa [PyData.canLay0] using h
  simpa [PyData.eqv] using eqvAll_refl h'
 | .dict _,h=>by simp [PyData.canLay0] at h
theorem eqvAll_refl:∀ {ds:List D},PyData.canLayAll0 ds=true->PyData.eqvAll ds ds=true
 | [],_=>by simp [PyData.eqvAll]
 | d :: ds, h => by
  have h':PyData.canLay0 d=true/\PyData.canLayAll0 ds=true:=by simpa [PyData.canLayAll0] using h
  simp [PyData.eqvAll,zaW h'.1,eqvAll_refl h'.2]
end
def Plain(n:Nat)(d:D):Prop:=PyData.canLay0 d=true/\PyData.depth d<=n
theorem Plain.shaped{n:Nat}{d:D}(h:Plain n d)(hn:n<=64):SeqAt.shaped d=true:=by
 unfold SeqAt.shaped;rw [h.1,Wbo];exact decide_eq_true (Ya5 h.2 hn)
theorem Plain.int(i:Int):Plain 0 (.int i):=⟨by simp [PyData.canLay0],by simp [PyData.depth]⟩
theorem Plain.bool(i:Bool):Plain 0 (.bool i):=⟨by simp [PyData.canLay0],by simp [PyData.depth]⟩
theorem Plain.none:Plain 0 .none:=⟨by simp [PyData.canLay0],by simp [PyData.depth]⟩
theorem zcD{n:Nat}:∀ {ds:List D},(∀ d∈ds,Plain n d)->PyData.canLayAll0 ds=true/\PyData.depthAll ds<=n
 | [],_=>by simp [PyData.canLayAll0,PyData.depthAll]
 | d :: ds, h => by
  obtain⟨h1,h2⟩:=h d YaV;obtain⟨h3,h4⟩:=zcD (ds:=ds) fun x hx=>h x (YaT _ hx)
  simp [PyData.canLayAll0,PyData.depthAll,h1,h3]
  omega
theorem Plain.list{n:Nat}{ds:List D}(h:∀ d∈ds,Plain n d):Plain (n+1) (.list ds):=by
 obtain⟨h1,h2⟩:=zcD h;exact⟨by simp [PyData.canLay0,h1],by simp [PyData.depth,h2]⟩
theorem Plain.tuple{n:Nat}{ds:List D}(h:∀ d∈ds,Plain n d):Plain (n+1) (.tuple ds):=by
 obtain⟨h1,h2⟩:=zcD h;exact⟨by simp [PyData.canLay0,h1],by simp [PyData.depth,h2]⟩
theorem Plain.mono{m n:Nat}{d:D}(h:Plain m d)(hn:m<=n):Plain n d:=⟨h.1,Ya5 h.2 hn⟩
theorem zcU{α : Type}{xs:List α}{i:Int}(h0:0<=i)(h:i<xs.length):∃ x,atI xs i=some x/\x∈xs/\xs[i.toNat]?=some x:=by
 have hk:i.toNat<xs.length:=#[0]
 refine⟨xs[i.toNat],?_,Ya4 hk,YaQ hk⟩
 have:=jt (xs:=xs) (j:=i.toNat) (YaQ hk);rwa [show((i.toNat:Nat):Int)=i by omega] at this
theorem za0{n:Nat}{i:Int}(h0:0<=i)(h:i<n):ixN n i=some i.toNat:=by
 unfold ixN;rw [if_pos h0,if_pos h]
end L3
namespace L2
open PySem PySem.Spec PyProof.Rows
section
variable{X:Cx}
end
end L2
namespace L3
open PySem PySem.Spec PyProof.Rows L2
variable[LamW]
section
variable{X:Cx}{H0:Hp}{e:Expr}{pos p:Pos}
end
variable[LamW]
section
variable{K:Ybf}{H0 G0:Hp}{ρ : Env3}{σ : L2.St}{G H G' H':Hp}
end
section
variable{X:Cx}{H0:Hp}{e:Expr}{es:#[54]}{pos p:Pos}{x:Str}
abbrev TR3:=Env3->(D->Prop)->Prop
def znn(K:Ybf)(H0:Hp)(t:TR3):TE:=fun σ H Q=>∃ G0 ρ G,Fr3 K H0 G0 ρ σ G H/\t ρ fun d=>∀ v G1 H1 G2 H2,Gr G H G1 H1->Gr G1 H1 G2 H2->RdN K H1 G2 v d->Q v H2
structure PR3(X:Cx)(H0:Hp)(e:Expr)(t:TR3):Prop where
 mono:∀ ρ (Q Q':D->Prop),(∀ c,Q c->Q' c)->t ρ Q->t ρ Q'
 ok:PE X e (znn X.K H0 t)
def zaI(sp:Sp3)(E:Addr->Prop)(t:TA3):TR3:=fun ρ Q=>t ρ fun cs=>∃ p,shs cs=some p/\sp p.2 (fun f d=>f=true/\Q d) E
theorem dfR{k:Nat}{ps:List Str}{sp:Sp3}{E:XK}{E3:Addr->Prop}{t:TA3}(hE:∀ C H',E3 C->zz H0 H'->E (.ref C) none H')(Gd:Df3 X.prog X.w X.K X.mg X.base k x ps sp)(hr:Room k X.A)(hg:Gl X x)(hx:Passes (CXR X.prog X.w) X E)(ha:PA3 X H0 (e::es) t)(hdb:#[21]:=by decide)
 (he:#[14]:=by rfl) (hpl:(backTo pos #[46]).any (·.1)=false:=by rfl):PR3 X H0 #[30] (zaI sp E3 t):=by
 refine⟨fun ρ Q Q' h q=>ha.mono ρ _ _ (fun cs ⟨p,hd,q⟩=>⟨p,hd,Gd.mono _ _ _ _ _ (fun f d ⟨a,b⟩=>⟨a,h _ b⟩) (fun _ z=>z) q⟩) q,PE.imp (ZW Gd.ok hr hg hx ha.ok hdb he hpl) fun σ H Q=>el5 fun G0 ρ G F q=>⟨G0,ρ,G,F,ha.mono ρ _ _ (fun cs ⟨p,hs,qc⟩ vs G1 H1 g1 w=>?_) q⟩⟩
 show spL X.K sp (vs++[]) H1 Q E
 rw [Yao];have kE:∀ C,E3 C->∀ H',zz H1 H'->E (.ref C) none H':=fun C c H' s=>hE C H' c ((F.gr g1).keep.trans s)
 exact⟨G1,p.2,g1.sub,(w.shs hs).rd,Gd.mono _ _ _ _ _ (fun f d ⟨hf,k⟩ v G' H' g r=>k v G1 H1 G' H' g1 g (r.nw hf)) kE qc⟩
end
theorem zik{K:Ybf}{H0 G:Hp}{us:List V}{ds:List D}(h:RdNs K H0 G us ds):us.length=ds.length:=(rdns_rd h).length
section
variable{X:Cx}
end
end L3
namespace L2
open PySem PySem.Spec PyProof.Rows
section
variable{X:Cx}
end
end L2
namespace L3
open PySem PySem.Spec PyProof.Rows L2
variable[LamW]
section
variable{X:Cx}{H0:Hp}{e:Expr}{pos:Pos}
def aug3(i:Nat)(te:TE3):TS3:=fun A ρ=>∃ f n,ρ[i]?=some (some (.sh f (.int n)))/\te ρ fun c=>∃ g m,c=.sh g (.int m)/\A.nx (ρ.set i (#[5,n+m]))
theorem zfn{i:Nat}{x:Str}{te:TE3}{pos':Pos}(hN:X.N.Nodup)(hi:X.N[i]?=some x)(hx:#[60])(he:PE3 X H0 e te)
 (hf:#[20]:=by first|exact .inl rfl|exact .inr rfl|assumption):PS3 X H0 (.AugAssign (.Name x pos') .Add e pos) (aug3 i te):=
 PS.imp (zmi hN hi hx he.ok zkd hf) fun B σ H hyp=>by
  obtain⟨G0,A,ρ,G,F,⟨f,n,h,q⟩,L⟩:=hyp;obtain⟨v,h1,h2⟩:=F.slot i _ h;have r:=zB (zn h2).rd;subst r;refine⟨_,h1,G0,ρ,G,F,he.mono ρ _ _ (fun c ⟨g,m,hc,q⟩ v G1 H1 g1 w=>?_) q⟩
  subst hc;have r:=zB (zn w).rd;subst r;exact⟨n,m,rfl,rfl,L.nx _ _ _ _ ((F.gr g1).set #[62]) q⟩
def par3(i j:Nat)(t:TA3):TS3:=fun A ρ=>t ρ fun cs=>∃ f a g b,cs=[.sh f a,.sh g b]/\A.nx ((ρ.set i (some (.sh f a))).set j (some (.sh g b)))
theorem zmz{i j:Nat}{x y:Str}{a b:Expr}{ta:TA3}{px py pt:Pos}{kt k2 pt2}(hc:X.calm=true)(hN:X.N.Nodup)(hi:X.N[i]?=some x)(hj:X.N[j]?=some y)(hij:i≠j)
 (hx:X.env.scope.names.lookup x=some .local) (hy:X.env.scope.names.lookup y=some .local) (ha:PA3 X H0 [a,b] ta)
 (hw:swappedStores [.Tuple [.Name x px,.Name y py] kt pt] (.Tuple [a,b] k2 pt2) X.env=pure (some [x,y]):=by rfl)
 (hs:swapsWithSole [.Tuple [.Name x px,.Name y py] kt pt] (.Tuple [a,b] k2 pt2) pos.line X.env=pure false:=by rfl) :
 PS3 X H0 (.Assign [.Tuple [.Name x px,.Name y py] kt pt] (.Tuple [a,b] k2 pt2) pos) (par3 i j ta):=
 PS.imp (zm4 hc hN hi hj hij hx hy ha.ok hw hs) fun B σ H=>el7 fun G0 A ρ G F q L=>⟨G0,ρ,G,F,ha.mono ρ _ _ (fun cs hyp vs G1 H1 g1 w=>by
  obtain⟨f,a,g,b,hcs,q⟩:=hyp;subst hcs;obtain⟨v,u,rfl,w1,w2⟩:=vws2 w;exact⟨v,u,rfl,L.nx _ _ _ _ (((F.gr g1).set (zn w1)).set (zn w2)) q⟩) q⟩
def ext3(i:Nat)(te:TE3):TS3:=fun A ρ=>∃ f ds,ρ[i]?=some (some (.ow f ds))/\te ρ fun c=>∃ es,c=.sh true (.list es)/\ds.length+es.length<=sizeLine/\A.nx (ρ.set i (some (.ow f (ds++es))))
theorem zgN{i:Nat}{te:TE3}{x:Str}{np apos cpos:Pos}(hN:X.N[i]?=some x)(hv:Vis X.env.scope x)(he:PE3 X H0 e te)(hd:#[21]:=by decide)(hcd:#[27]:=by decide)
 (hb:attributeBase #[36] "extend" X.env (eval #[36] X.env)=eval #[36] X.env:=by rfl)
 (hf:((backTo cpos (starEach [e] X.env)).all (fun x=>!x.1)&&(backToKw cpos (keywordEach [] X.env)).all (fun x=>x.1.isSome)&&decide ([e].length+([]:List Keyword).length+(if([]:List Keyword).isEmpty then 0 else 1)<30))=true:=by rfl)
 (hl:(apos.endLine==cpos.line)=true:=by rfl) (hs:starEach [e] X.env=(false,eval e X.env)::starEach [] X.env:=by rfl) (hp:(backTo cpos #[65]).any (·.1)=false:=by rfl)
 (hw:swapsWith (.Call (.Attribute #[36] "extend" apos) [e] [] cpos) none pos.line X.env=pure false:=by rfl):PS3 X H0 (.Expr (.Call (.Attribute #[36] "extend" apos) [e] [] cpos) pos) (ext3 i te):=by
 refine PS.imp (Za (zeD PySem.F.plainAttrs_list PySem.F.slot_list_extend PySem.F.type_list_extend ziZ (jC hN hv hd hcd) (jn he.ok jE hs) hb hf hl hs hp) hw) fun B σ H hyp=>?_
 obtain⟨G0,A,ρ,G,F,⟨f,ds,hi,q⟩,L⟩:=hyp;obtain⟨l,vs,h1,h2,r⟩:=zb4 F hi;refine⟨.ref l,h1,zbi h2,G0,ρ,G,F,he.mono ρ _ _ (fun c ⟨es,hc,hz,q⟩ v G' H' g w=>?_) q⟩
 subst hc;have rw':=zn w;have rn:=rw'.nw rfl;cases rn with
 | lst hG hn rs=>
  rename_i b xs;have ra:Rfs X.K H0 G' f (vs++xs) (ds++es):=⟨((r.same g.g).rd).append (rdns_rd rs),fun hf=>zbS ((r.same g.g).nw hf) rs⟩
  exact⟨l,b,vs,xs,rfl,rfl,g.h.at h2,g.sub.s _ _ hG,by rw [r.length,(rdns_rd rs).length];exact hz,L.nx _ _ _ _ ((F.gr g).change hi h1 ra) q⟩
end
end L3
namespace L2
open PySem PySem.Spec PyProof.Rows
theorem zlj:bootBuiltins "enumerate" = some (.type "enumerate"):=by with_unfolding_all rfl
def Ite(K:Ybf)(a:Addr):It:=
 ⟨fun i H=>∃ xs x,SqL K H a xs/\xs[i]?=some x,
  fun i H v H'=>∃ p x,H p=none/\v=.ref p/\H'=upd H p (.tup [.int i,x])/\∀ xs,SqL K H a xs->xs[i]?=some x,
  fun i H=>∃ xs,SqL K H a xs/\i=xs.length⟩
theorem ziJ{P:Program}{w:World}{K:Ybf}{elts:#[54]}{k:Nat}{pos:Pos}{e it l:Addr}(hei:e≠it)(hle:l≠e)(hli:l≠it) :
 Turn P w K (.Tuple elts k pos) (Ite K l) [e,it] e (fun i h=>(∃ old,IsEnum h e it i old)/\h.IsListIter it l i) where
 mem:=by simp
 obj:=fun i h hyp c hc=>by
  obtain⟨⟨old,he⟩,⟨o1,e1,c1,d1⟩⟩:=hyp;have hc':c=e\/c=it:=by simpa using hc
  rcases hc' with rfl|rfl
  . exact⟨_,he,fun v z=>by cases(show Data.fields _=Data.cell v from z)⟩
  . exact⟨o1,e1,fun v z=>by rw [d1] at z;cases z⟩
 keep:=fun i h h' ⟨⟨old,he⟩,h1⟩ kk=>⟨⟨old,kk e (by simp) _ he⟩,h1.at fun o e=>kk it (by simp) o e⟩
 item:=by
  intro X hP hw hK hc i pins s σ H E I hf st hg;subst hP hw hK;obtain⟨xs,x,q1,hx⟩:=hg;obtain⟨its1,r1,p1,_⟩:=I.list q1;obtain⟨u,hu,ru⟩:=r1.get hx;have W:=WalksT.enumerate (prog:=X.prog) (w:=X.w) (A:=X.A) #[67] e it l hei hle hli its1.toArray;have hi:i<its1.toArray.size:=by
   have a1:=(Ya8.mp hu).1;simp only [YaZ];omega
  obtain⟨he,h1⟩:=st;have olt:∀ b∈[e,it],b<s.heap.objs.size:=fun b hb=>by
   obtain⟨old,he'⟩:=he;have hc':b=e\/b=it:=by simpa using hb
   rcases hc' with rfl|rfl
   . exact YaX he'
   . obtain⟨_,e,_⟩:=h1;exact YaX e
  refine W.item i s _ _ hi ⟨he,h1,p1.isList⟩ fun T vals h1' tk hv' hT hTup mid kp=>?_
  obtain⟨t',u',hu',e'⟩:=hv';subst e';have eu:u'=u:=by
   have:its1[i]?=some u':=by simpa using hu'
   rw [hu] at this;cases this;rfl
  subst eu;refine⟨_,rfl,W.go elts k pos i T _ _ _ mid fun h2' st2 kp2=>?_⟩
  have I1:Inv X pins σ H { s with heap:=h2',toks:=tk }:=I.turnedL (ch:=[e,it]) (fun b o hb e=>kp2 b o hb (kp b o hb e)) fun b hb=>hf b hb
  have hTn:H T=none:=I.hok.fresh hT;obtain⟨o,ho,oc,on,od⟩:=hTup;have ho2:=kp2 T o (W.apart i T _ mid) ho;have I2:Inv X pins σ (upd H T (.tup [.int i,x])) { s with heap:=h2',toks:=tk }:=I1.track hTn (Ya5 I.sz hT) (Wbx (YaU I.lt hT)) (fun n c e z=>by
   obtain⟨vv,q⟩:=I.cell n c e;exact absurd (YaU q.lt (by rw [z];exact hT)) (Yap _)) (fun p hp z=>absurd (YaU (YaX (I.pin p hp).1) (by rw [z];exact hT)) (Yap _))
   ⟨by show 2<=sizeLine;decide,[.int i t',u'],.cons ⟨t',rfl⟩ (.cons ru .nil),o,ho2,oc,on,od⟩
  refine⟨.ref T,_,I2,rfl,⟨T,x,hTn,rfl,rfl,fun xs' z1=>?_⟩,⟨st2.1,st2.2.1⟩,fun b hb=>?_⟩
  . rw [I.list_inj z1 q1];exact hx
  . rw [zj (Yaf (YaU (olt b hb) hT))];exact(hf b hb).1
 done:=by
  intro X hP hw hK hc i pins s σ H E I hf st hg;subst hP hw hK;obtain⟨xs,q1,hi⟩:=hg;obtain⟨its1,r1,p1,_⟩:=I.list q1;have W:=WalksT.enumerate (prog:=X.prog) (w:=X.w) (A:=X.A) #[67] e it l hei hle hli its1.toArray;obtain⟨he,h1⟩:=st;have ei:i=its1.toArray.size:=by simp only [YaZ];rw [<-r1.length];exact hi
  subst ei;refine W.done s _ _ ⟨he,h1,p1.isList⟩ fun h' tk kp=>⟨rfl,?_⟩
  exact I.turnedL (ch:=[e,it]) kp fun b hb=>hf b hb
 self:=fun _ _ _ _ _ st h=>by obtain⟨⟨old,he⟩,_⟩:=st;exact wpAny_pyIter_enum he h
def zmK(K:Ybf)(ta:TA):TI:=fun σ H R=>ta σ H fun vs H1=>∃ a,vs=[.ref a]/\(∃ xs,SqL K H1 a xs)/\R (Ite K a) H1
theorem zmM{X:Cx}{elts:#[54]}{k:Nat}{tpos:Pos}{a:Expr}{ta:TA}{p pos:Pos}(hg:Gl X "enumerate")(hm:X.mg "enumerate" = none)(ha:PA X [a] ta)(hs:starEach [a] X.env=[#[42]]:=by rfl):PI X (.Tuple elts k tpos) (.Call (.Name "enumerate" p) [a] [] pos) (zmK X.K ta):=by
 intro pins s σ H R I h;refine Call_ (jU I hg hm zlj (Wae (thn (ha pos pins s σ H _ I h) fun us s1 ⟨vs,H1,I1,r1,q1⟩=>?_) (by rw [hs];rfl) rfl))
 obtain⟨l1,e,⟨xs,hx⟩,q⟩:=q1;subst e;obtain⟨u,rfl,ru⟩:=jk r1;cases(show u=Value.ref l1 from ru)
 obtain⟨its1,_,p1,_⟩:=I1.list hx;have lt1:l1<s1.heap.objs.size:=by obtain⟨o,e,_⟩:=p1.isList;exact YaX e
 refine call_enumerate_list p1.isList fun h' he hi1 hsz kp=>wpAny_pyIter_enum he ?_
 have I2:Inv X pins σ H1 { s1 with heap:=h' }:=I1.kept (t':=s1.toks) kp
 refine⟨_,[s1.heap.objs.size+1,s1.heap.objs.size],_,Ite X.K l1,H1,rfl,I2,ziJ (Nat.succ_ne_self _) (Yaf (WaO lt1)) (Yaf lt1),⟨⟨_,he⟩,hi1⟩,fun b hb=>?_,q⟩
 have hb':s1.heap.objs.size<=b:=by
  have hc':b=s1.heap.objs.size+1\/b=s1.heap.objs.size:=by simpa using hb
  rcases hc' with rfl|rfl<;>omega
 have f:=I1.fpOk (H':=H1) hb' (I1.hok.fresh hb');exact⟨f.1,f.2.1,f.2.2.1,f.2.2.2.1,f.2.2.2.2.1,f.2.2.2.2.2⟩
end L2
namespace L3
open PySem PySem.Spec PyProof.Rows L2
variable[LamW]
section
variable{X:Cx}{H0:Hp}{pos p:Pos}
def jI(ds:List D):List D:=(List.range ds.length).map fun i=>.tuple [.int (i:Nat),ds.getD i .none]
theorem znl(ds:List D):(jI ds).length=ds.length:=by unfold jI;simp
theorem zlY{ds:List D}{i:Nat}{d:D}(h:(jI ds)[i]?=some d):∃ a,d=.tuple [.int (i:Nat),a]/\ds[i]?=some a:=by
 unfold jI at h;rw [Ya0] at h
 by_cases hi:i<ds.length
 . rw [Yax hi] at h
   cases h;exact⟨ds[i],by simp [hi],YaQ hi⟩
 . rw [WaB #[6]] at h;cases h
def itE(t:TA3):TI3:=fun ρ Q=>t ρ fun cs=>∃ f as,cs=[.sh f (.list as)]/\Q f (jI as)
theorem zm7{K:Ybf}{H0 G:Hp}{a:Addr}{xs:List V}{f:Bool}{as:List D}(h1:SqL K G a xs)(r1:Rfs K H0 G f xs as):ItOk K H0 (Ite K a) f (jI as) G where
 go:=fun i d G' H hd s1 s2=>by
  obtain⟨q,rfl,hq⟩:=zlY hd;obtain⟨x,hx,rx⟩:=r1.get hq;have ss:=s1.trans s2.s;refine⟨⟨xs,x,ss.seq h1,hx⟩,fun v H' ⟨l,x',hl,e1,e2,hh⟩=>?_⟩
  subst e1 e2;have z1:=hh xs (ss.seq h1);rw [hx] at z1;cases z1;have gl:=zT (s2.free hl) (.tup [.int i,x]);exact⟨upd G' l (.tup [.int i,x]),Gr.put s2 hl,⟨.tup (SqT.of zt) (.cons (.int _) (.cons (J4 (s1.trans gl) rx.rd) .nil)),fun hf=>
   .tup zt (.cons (.int _) (.cons (jM (s1.trans gl) (fun _ _ _ z=>z) (rx.nw hf)) .nil))⟩⟩
 stop:=fun i G' H hl s1 s2=>⟨xs,(s1.trans s2.s).seq h1,by rw [hl,znl,r1.length]⟩
theorem zbj{elts:#[54]}{k:Nat}{tpos:Pos}{a:Expr}{t:TA3}(hg:Gl X "enumerate")(hm:X.mg "enumerate" = none)(ha:PA3 X H0 [a] t)(hs:starEach [a] X.env=[#[42]]:=by rfl):PI3 X H0 (.Tuple elts k tpos) (.Call (.Name "enumerate" p) [a] [] pos) (itE t):=
 ⟨fun ρ Q Q' h q=>ha.mono ρ _ _ (fun cs ⟨f,as,e,q⟩=>⟨f,as,e,h _ _ q⟩) q,PI.imp (zmM hg hm ha.ok hs) fun σ H R=>el5 fun G0 ρ G F q=>⟨G0,ρ,G,F,ha.mono ρ _ _ (fun cs hyp vs G1 H1 g1 w=>by
  obtain⟨f,as,e,k⟩:=hyp;subst e;obtain⟨v,rfl,w1⟩:=vws1 w;obtain⟨a,xs,rfl,hq,rs⟩:=Zc (zn w1);exact⟨a,rfl,⟨xs,g1.sub.seq hq⟩,k _ G1 H1 g1 (zm7 hq rs)⟩) q⟩⟩
end
variable[LamW]
def TupI(K:Ybf)(a:Addr)(ns:List Int):Prop:=∃ (o:Obj) (its:Array Value) (n:Nat),K.lookup a=some o/\o.cls=.type "tuple"/\o.data=.seq its n/\its.size<=sizeLine/\Vals (ns.map V.int) its.toList
section
variable{X:Cx}{H0:Hp}{e:Expr}{pos:Pos}{x:Str}
def k3f(d:D):TE3:=fun _ Q=>Q (.sh false d)
theorem g3t{ns:List Int}(hg:Gl X x)(hm:∃ a,X.mg x=some (.ref a)/\TupI X.K a ns)(hd:#[21]:=by decide):PE3 X H0 (.Name x pos) (k3f (.tuple (ns.map .int))):=by
 obtain⟨a,hm,ht⟩:=hm;exact⟨fun ρ Q Q' h q=>h _ q,PE.imp (zgu (v:=.ref a) hg hm rfl hd) fun σ H Q=>el5 fun G0 ρ G F q=>q (.ref a) G H (Gr.refl F.sub) (.sh ⟨.tup (.inr ht) (zcz ns),fun z=>by cases z⟩)⟩
end
variable[LamW]
section
variable{K:Ybf}{H0 G0:Hp}{ρ : Env3}{σ : L2.St}{G H:Hp}
theorem zcJ(F:#[26]){i:Nat}{ps:#[55]}{ms:List (List D)}(h:ρ[i]?=some (some (.tr ps ms))):∃ l,σ[i]?=some (some (.ref l))/\Tr K H0 G H l ps ms:=by
 obtain⟨v,h1,h2⟩:=F.slot i _ h;cases h2 with
 | tr t=>exact⟨_,h1,t⟩
theorem Tr.ix{l:Addr}{ps:#[55]}{ms:List (List D)}(t:Tr K H0 G H l ps ms){n:Int}{m:List D}(h:atI ms n=some m):∃ a p vs,ixN ms.length n=some a/\ms[a]?=some m/\ps[a]?=some p/\atI (ps.map V.ref) n=some (.ref p)/\H p=some (.lst vs)/\G p=none/\Rfs K H0 G true vs m:=by
 unfold atI at *;rw [YaR,t.len];cases e:ixN ms.length n with
 | none=>rw [e] at h;cases h
 | some a=>
  rw [e] at h;have h':ms[a]?=some m:=h;have ha:a<ps.length:=by rw [t.len];exact(Ya8.mp h').1
  have hp:ps[a]?=some ps[a]:=YaQ ha;obtain⟨vs,h1,h2,h3⟩:=t.item a _ m hp h';exact⟨a,ps[a],vs,rfl,h',hp,by rw [Option.bind_some,Ya0,hp];rfl,h1,h2,h3⟩
theorem Tr.change{l:Addr}{ps:#[55]}{ms:List (List D)}(t:Tr K H0 G H l ps ms){a:Nat}{p:Addr}{vs:List V}{m:List D}(hp:ps[a]?=some p)(r:Rfs K H0 G true vs m):Tr K H0 G (upd H p (.lst vs)) l ps (ms.set a m):=by
 have hpm:p∈ps:=Yah hp;have hn:=YaB.mp t.nd;have hlp:l≠p:=fun z=>by subst z;exact hn.1 hpm
 refine⟨by rw [zj hlp];exact t.top,t.topG,t.nd,by rw [YaN];exact t.len,fun k q m' h1 h2=>?_⟩
 rcases zL h2 with ⟨rfl,e,_⟩|⟨n,e⟩
 . rw [hp] at h1;cases h1
   rw [e];exact⟨vs,zt,((t.at hpm).choose_spec.choose_spec).2.1,r⟩
 . obtain⟨us,a1,a2,a3⟩:=t.item k q m' h1 e
   have hq:q≠p:=fun z=>by
    subst z;obtain⟨b1,c1⟩:=Ya8.mp h1;obtain⟨b2,c2⟩:=Ya8.mp hp;exact n ((Wa0 hn.2).mp (c2.trans c1.symm))
   exact⟨us,by rw [zj hq];exact a1,a2,a3⟩
theorem Fr3.chgT(F:#[26]){i:Nat}{l:Addr}{ps:#[55]}{ms:List (List D)}{a:Nat}{p:Addr}{vs:List V}{m:List D}(hi:ρ[i]?=some (some (.tr ps ms)))(hl:σ[i]?=some (some (.ref l)))(hp:ps[a]?=some p)(r:Rfs K H0 G true vs m):Fr3 K H0 G0 (ρ.set i (some (.tr ps (ms.set a m)))) σ G (upd H p (.lst vs)):=by
 obtain⟨l',hl',t⟩:=zcJ F hi;rw [hl] at hl';cases hl';exact F.chg hi hl (.inr (Yah hp)) (fun _ h=>h) (.tr (t.change hp r))
end
section
variable{X:Cx}{H0:Hp}{e k j:Expr}{pos:Pos}{x:Str}{i:Nat}
def app2(i:Nat)(tk te:TE3):TS3:=fun A ρ=>∃ ps ms,ρ[i]?=some (some (.tr ps ms))/\tk ρ fun kc=>∃ n m a,kc=.sh true (.int n)/\atI ms n=some m/\ixN ms.length n=some a/\m.length<sizeLine/\te ρ fun c=>∃ d,c=.sh true d/\A.nx (ρ.set i (some (.tr ps (ms.set a (m++[d])))))
theorem zng{tk te:TE3}{np kp apos cpos:Pos}(hN:X.N[i]?=some x)(hv:Vis X.env.scope x)(hk:PE3 X H0 k tk)(he:PE3 X H0 e te)(hsk:za6 k)(hd:#[21]:=by decide)(hcd:#[27]:=by decide)
 (hb:attributeBase (.Subscript #[36] k kp) "append" X.env (eval (.Subscript #[36] k kp) X.env)=eval (.Subscript #[36] k kp) X.env:=by rfl)
 (hf:((backTo cpos (starEach [e] X.env)).all (fun x=>!x.1)&&(backToKw cpos (keywordEach [] X.env)).all (fun x=>x.1.isSome)&&decide ([e].length+([]:List Keyword).length+(if([]:List Keyword).isEmpty then 0 else 1)<30))=true:=by rfl)
 (hl:(apos.endLine==cpos.line)=true:=by rfl) (hs:starEach [e] X.env=(false,eval e X.env)::starEach [] X.env:=by rfl) (hp:(backTo cpos #[65]).any (·.1)=false:=by rfl)
 (hw:swapsWith (.Call (.Attribute (.Subscript #[36] k kp) "append" apos) [e] [] cpos) none pos.line X.env=pure false:=by rfl):PS3 X H0 (.Expr (.Call (.Attribute (.Subscript #[36] k kp) "append" apos) [e] [] cpos) pos) (app2 i tk te):=by
 refine PS.imp (Za (zcZ (zbM zgz (jC hN hv hd hcd) hk.ok hsk) (jn he.ok jE hs) hb hf hl hs hp) hw) fun B σ H hyp=>?_
 obtain⟨G0,A,ρ,G,F,⟨ps,ms,hi,q⟩,L⟩:=hyp;obtain⟨l,hl,t⟩:=zcJ F hi;refine⟨.ref l,hl,G0,ρ,G,F,hk.mono ρ _ _ (fun kc q v2 G2 H2 g2 w2=>?_) q⟩
 obtain⟨n,m,a',e1,e2,e5,e6,q⟩:=q;subst e1;cases zB (zn w2).rd;have F2:=F.gr g2;obtain⟨l',hl',t2⟩:=zcJ F2 hi;rw [hl] at hl';cases hl';obtain⟨a,p,vs,k1,k2,k3,k4,k5,k6,k7⟩:=t2.ix e2;rw [k1] at e5;cases e5;refine⟨l,_,n,.ref p,rfl,rfl,SqL.of t2.top,k4,zbi k5,G0,ρ,G2,F2,he.mono ρ _ _ (fun c q v G3 H3 g3 w3=>?_) q⟩
 obtain⟨d,e3,q⟩:=q;subst e3;exact⟨p,vs,v,rfl,rfl,g3.h.at k5,by rw [k7.length];exact e6,L.nx _ _ _ _ ((F2.gr g3).chgT hi hl k3 ((k7.same g3.g).snoc (zn w3))) q⟩
def zat(i:Nat)(ti:TI3)(m:List D):TS3:=fun A ρ=>ti ρ fun _ ds=>ds.length<=1000000/\∀ ps:List Addr,ps.length=ds.length->A.nx (ρ.set i (some (.tr ps (List.replicate ds.length m))))
theorem J1(lo:Int)(n:Nat):(nums lo n).length=n:=by unfold nums;rw [YaR,YaG]
theorem zhj{es:#[54]}{kn:Str}{kp lp:Pos}{iter:Expr}{scope:Scope}{spos pos':Pos}{ti:TI3}{te:TE}{vs:List V}{m:List D}(hN:X.N.Nodup)(hix:X.N[i]?=some x)(hx:#[60])(tn fn:List Str)(js:List Nat)(hcalm:X.calm=true)(S:CompSc X.env.scope scope tn fn)(hj:js.map (fun j=>X.N[j]?)=fn.map some)
 (hi:PI3 X H0 (.Name kn kp) iter ti)
 (hb:∀ s H fp cl,PG #[16] (.Name kn kp) (zaQ 0)/\PE #[16] (.List es lp) te)
 (ht:∀ σ H Q,(∀ p,H p=none->Q (.ref p) (upd H p (.lst vs)))->te σ H Q) (hr:∀ G,RdVs X.K G vs m) (hsc:m.all zq=true)
 (hs:∀ x,foldedSetIterable iter X.env x=pure x:=by intro _;rfl)
 (hsw:swapsWith (.ListComp (.List es lp) [⟨.Name kn kp,iter,[],0⟩] scope pos) (some (.Name x pos')) spos.line X.env=pure true:=by rfl) (hf:#[20]:=by first|exact .inl rfl|exact .inr rfl|assumption) :
 PS3 X H0 (.Assign [.Name x pos'] (.ListComp (.List es lp) [⟨.Name kn kp,iter,[],0⟩] scope pos) spos) (zat i ti m):=by
 refine PS.imp (zcb hN hix hx tn fn js hcalm S hj hi.ok (fun s H fp cl=>⟨(hb s H fp cl).1,zdB,(hb s H fp cl).2⟩) hs hsw hf) fun B σ H hyp=>?_
 obtain⟨G0,A,ρ,G,F,q,L⟩:=hyp;refine⟨G0,ρ,G,F,hi.mono ρ _ _ (fun fl ds q J G1 H1 g1 ok D hD=>?_) q⟩
 obtain⟨e2,q⟩:=q;generalize hn:ds.length=n at e2 q;have F1:=F.gr g1;have gD:G1 D=none:=g1.sub.free hD;refine⟨fun c r ys σ2 H2=>c<=n/\r=n - c/\zz H1 H2/\∃ ps:List Addr,ys=ps.map V.ref/\ps.length=c/\H2 D=some (.lst ys)/\(D::ps).Nodup/\∀ p∈ps,H1 p=none/\H2 p=some (.lst vs),
  ⟨n,WbF _,rfl,(zT hD _).x,[],rfl,rfl,zt,by simp,fun p hp=>by cases hp⟩,?_⟩
 rintro c r ys σ2 H2 ⟨hcn,rfl,s2,ps,rfl,hpl,hHD,hnd,hps⟩
 have sG:Sub G1 H2:=g1.sub.trans s2
 by_cases hlt:c<n
 . right
   have hc':c<ds.length:=by rw [hn];exact hlt
   have hd:ds[c]?=some ds[c]:=YaQ hc';obtain⟨hgo,hy⟩:=ok.go c _ G1 H2 hd (Same.refl _) sG;refine⟨hgo,fun x3 H3 y3=>?_⟩
   obtain⟨G3,g3,_⟩:=hy x3 H3 y3;show te _ H3 _;refine ht _ _ _ fun p hp=>?_
   have h3D:H3 D=some (.lst (ps.map V.ref)):=g3.h.at hHD;have pD:p≠D:=fun z=>by subst z;rw [hp] at h3D;cases h3D
   have p1:H1 p=none:=(s2.trans g3.h).free hp;refine⟨by rw [zj (WbM pD)];exact h3D,?_,n - (c+1),#[0],#[0],rfl,?_,ps++[p],by rw [Ya2];rfl,by rw [YaS,hpl];rfl,zt,?_,?_⟩
   . rw [YaR,hpl]
     exact YaU (show c<1000001 by omega) #[1]
   . exact((s2.trans g3.h).trans (zT hp _).x).chg hD (by rw [zj (WbM pD)];exact h3D) fun f z=>by cases z
   . rw [<-List.cons_append]
     refine WaP.mpr ⟨hnd,by simp,fun a ha b hb=>?_⟩
     cases Ya6.mp hb
     intro z;subst z
     rcases Wbm.mp ha with h|h
     . exact pD h
     . have:=g3.h.at (hps a h).2
       rw [hp] at this;cases this
   . intro b hb
     rcases Ya3.mp hb with h|h
     . have hbD:b≠D:=fun z=>by subst z;exact(YaB.mp hnd).1 h
       have hbp:b≠p:=fun z=>by
        subst z;have:=g3.h.at (hps b h).2;rw [hp] at this;cases this
       exact⟨(hps b h).1,by rw [zj hbD,zj hbp];exact g3.h.at (hps b h).2⟩
     . cases Ya6.mp h
       exact⟨p1,by rw [zj pD];exact zt⟩
 . left
   have ec:c=n:=Nat.le_antisymm hcn (WbK.mp hlt);subst ec;refine⟨ok.stop c G1 H2 hn.symm (Same.refl _) sG,?_⟩;refine L.nx _ _ G1 H2 (F1.put s2 (.tr ⟨hHD,gD,hnd,by rw [hpl,Ybb],fun k p m' h1 h2=>?_⟩) fun a h=>?_) (q ps hpl)
   . have hm':m'=m:=by
      have:=Yah h2;exact Wan this
     subst hm';have hp:=Yah h1;exact⟨vs,(hps p hp).2,g1.sub.free (hps p hp).1,hr _,fun _=>zeX hsc (hr _)⟩
   . rcases h with h|h
     . cases h;exact hD
     . exact(hps a h).1
end
end L3
namespace L2
open PySem PySem.Spec PyProof.Rows
section
variable{κ : Type}[DecidableEq κ]
def valV(kvs:List (κ×V))(k:κ):Option V:=(kvs.find? fun kv=>decide (kv.1=k)).map (·.2)
def putK(kvs:List (κ×V))(k:κ)(v:V):List (κ×V):=
 if(kvs.any fun kv=>decide (kv.1=k))=true then kvs.map (fun kv=>if kv.1=k then(kv.1,v) else kv) else kvs++[(k,v)]
theorem zaw{p:κ×V}{r:List (κ×V)}{k:κ}(e:p.1=k):valV (p::r) k=some p.2:=by simp [valV,List.find?_cons,e]
theorem ZB{p:κ×V}{r:List (κ×V)}{k:κ}(e:¬p.1=k):valV (p::r) k=valV r k:=by simp [valV,List.find?_cons,e]
theorem zgD(k:κ):∀ kvs:List (κ×V),(kvs.any fun kv=>decide (kv.1=k))=(valV kvs k).isSome
 | []=>rfl
 | p :: r => by
  rw [List.any_cons]
  by_cases e:p.1=k
  . simp only [zaw e,decide_eq_true e,Bool.true_or,Option.isSome_some]
  . rw [ZB e,decide_eq_false e,Wbp];exact zgD k r
theorem zeU(kvs:List (κ×V))(k:κ)(v:V):(putK kvs k v).length<=kvs.length+1:=by
 unfold putK
 split
 . rw [YaR];omega
 . rw [YaS,List.length_cons,List.length_nil];omega
theorem RelO.isSome_eq{o:Option V}{u:Option Value}(r:RelO o u):o.isSome=u.isSome:=by
 cases o with
 | none => cases u with
  | none=>rfl
  | some _=>exact(show False from r).elim
 | some _ => cases u with
  | none=>exact(show False from r).elim
  | some _=>rfl
theorem RelO.getD{o:Option V}{u:Option Value}{d:V}{d':Value}(r:RelO o u)(rd:RelV d d'):RelV (o.getD d) (u.getD d'):=by
 cases o with
 | none => cases u with
  | none=>exact rd
  | some _=>exact(show False from r).elim
 | some _ => cases u with
  | none=>exact(show False from r).elim
  | some _=>exact r
theorem KV.val{kvs:List (κ×V)}{vs:List (κ×Value)}(r:KV kvs vs)(k:κ):RelO (valV kvs k) (valueAt vs k):=by
 unfold KV at r
 induction r with
 | nil=>exact True.intro
 | @cons p q ps qs h t ih=>
  obtain⟨h1,h2⟩:=h
  by_cases e:p.1=k
  . have e':q.1=k:=h1.symm.trans e
    have b:valueAt (q::qs) k=some q.2:=by simp [valueAt,List.find?_cons,e']
    rw [zaw e,b];exact h2
  . have e':¬q.1=k:=fun z=>e (h1.trans z)
    have b:valueAt (q::qs) k=valueAt qs k:=by simp [valueAt,List.find?_cons,e']
    rw [ZB e,b];exact ih
theorem KV.any{kvs:List (κ×V)}{vs:List (κ×Value)}(r:KV kvs vs)(k:κ):(kvs.any fun kv=>decide (kv.1=k))=vs.any fun kv=>decide (kv.1=k):=by
 unfold KV at r
 induction r with
 | nil=>rfl
 | cons h t ih=>rw [List.any_cons,List.any_cons,ih,h.1]
theorem KV.repl{kvs:List (κ×V)}{vs:List (κ×Value)}(r:KV kvs vs)(k:κ){y:V}{u:Value}(ry:RelV y u) :
 KV (kvs.map fun kv=>if kv.1=k then(kv.1,y) else kv) (vs.map fun kv=>if kv.1=k then(kv.1,u) else kv):=by
 unfold KV at r ⊢
 induction r with
 | nil=>exact .nil
 | @cons p q ps qs h t ih=>
  rw [Ya1,Ya1];refine .cons ?_ ih;obtain⟨h1,h2⟩:=h
  by_cases e:p.1=k
  . rw [if_pos e,if_pos (h1.symm.trans e)];exact⟨h1,ry⟩
  . rw [if_neg e,if_neg (fun z=>e (h1.trans z))];exact⟨h1,h2⟩
theorem KV.put{kvs:List (κ×V)}{vs:List (κ×Value)}(r:KV kvs vs)(k:κ){y:V}{u:Value}(ry:RelV y u):KV (putK kvs k y) (stored vs k u):=by
 unfold putK stored;rw [r.any k]
 by_cases e:(vs.any fun kv=>decide (kv.1=k))=true
 . rw [if_pos e,if_pos e];exact r.repl k ry
 . rw [if_neg e,if_neg e];exact Paired.snoc r ⟨rfl,ry⟩
theorem KV.keys{kvs:List (κ×V)}{vs:List (κ×Value)}(r:KV kvs vs):kvs.map (·.1)=vs.map (·.1):=by
 unfold KV at r
 induction r with
 | nil=>rfl
 | cons h t ih=>rw [Ya1,Ya1,ih,h.1]
theorem KV.length{kvs:List (κ×V)}{vs:List (κ×Value)}(r:KV kvs vs):kvs.length=vs.length:=Wbl r
end
theorem Z9{P:Program}{w:World}{k:Key}{u:Value}(r:RelV (kV k) u):(ji P w).is k u=true:=by
 cases k with
 | inl i=>obtain⟨t,e⟩:=(show ∃ t,u=Value.int i t from r);subst e;exact znA P w i t
 | inr x=>obtain⟨t,e⟩:=(show ∃ t,u=Value.str x t from r);subst e;exact zkR P w x t
theorem zeu{P:Program}{w:World}:∀ {ks:List Key} {us:#[28]},Vals (ks.map kV) us->ItemsAre (ji P w) ks us
 | [],_,r=>by rw [Wby] at r;cases r;exact .nil
 | k :: ks, _, r => by
  rw [Ya1] at r;cases r with
  | cons h t=>exact .cons (Z9 h) (zeu t)
abbrev KT(H:Hp):List #[48]->List (List Key×Addr×Value)->Prop:=Paired fun p q=>p.1=q.1/\H q.2.1=some (.tup (p.1.map kV))/\RelV p.2 q.2.2
theorem KT.val{H:Hp}{kvs:List #[48]}{xs:List (List Key×Addr×Value)}(r:KT H kvs xs)(k:List Key):RelO (valV kvs k) ((atKey xs k).map (·.2)):=by
 induction r with
 | nil=>exact True.intro
 | @cons p q ps qs h t ih=>
  obtain⟨h1,_,h2⟩:=h
  by_cases e:p.1=k
  . have e':q.1=k:=h1.symm.trans e
    have b:atKey (q::qs) k=some q.2:=by simp [atKey,List.find?_cons,e']
    rw [zaw e,b];exact h2
  . have e':¬q.1=k:=fun z=>e (h1.trans z)
    have b:atKey (q::qs) k=atKey qs k:=by simp [atKey,List.find?_cons,e']
    rw [ZB e,b];exact ih
theorem KT.repl{H:Hp}{kvs:List #[48]}{xs:List (List Key×Addr×Value)}(r:KT H kvs xs)(k:List Key){y:V}{u:Value}(ry:RelV y u) :
 KT H (kvs.map fun kv=>if kv.1=k then(kv.1,y) else kv) (xs.map (putAt k u)):=by
 induction r with
 | nil=>exact .nil
 | @cons p q ps qs h t ih=>
  rw [Ya1,Ya1];refine .cons ?_ ih;obtain⟨h1,h2,h3⟩:=h;unfold putAt
  by_cases e:p.1=k
  . rw [if_pos e,if_pos (h1.symm.trans e)];exact⟨h1,h2,ry⟩
  . rw [if_neg e,if_neg (fun z=>e (h1.trans z))];exact⟨h1,h2,h3⟩
theorem KT.put{H:Hp}{kvs:List #[48]}{xs:List (List Key×Addr×Value)}(r:KT H kvs xs)(k:List Key){b:Addr}{y:V}{u:Value}(hb:H b=some (.tup (k.map kV)))(ry:RelV y u) :
 KT H (putK kvs k y) (storedH xs k b u):=by
 have e:(kvs.any fun kv=>decide (kv.1=k))=(atKey xs k).isSome:=by
  rw [zgD,(r.val k).isSome_eq,Option.isSome_map]
 unfold putK storedH;rw [e]
 by_cases q:(atKey xs k).isSome=true
 . rw [if_pos q,if_pos q];exact r.repl k ry
 . rw [if_neg q,if_neg q];exact Paired.snoc r ⟨rfl,hb,ry⟩
theorem KT.keeps{H H':Hp}{kvs:List #[48]}{xs:List (List Key×Addr×Value)}(r:KT H kvs xs)(ht:∀ b ys,H b=some (.tup ys)->H' b=some (.tup ys)):KT H' kvs xs:=
 Paired.mapP r fun _ _ z=>⟨z.1,ht _ _ z.2.1,z.2.2⟩
section
variable{P:Program}{w:World}{H:Hp}{h:Heap}{a:Addr}
theorem zeL{u:HO}(ok:HOk P w H h)(e:Rd H a u):zK P w H h a u:=e.ok ok
theorem JN{kvs:List (Key×V)}(ok:HOk P w H h)(e:Rd H a (.dK kvs)):kvs.length<=sizeLine/\(a==sysModules)=false/\∃ vs,KV kvs vs/\h.DictOf (ji P w) a vs:=
 show zK P w H h a (.dK kvs) from zeL ok e
theorem znk{kvs:List (Key×V)}(ok:HOk P w H h)(e:H a=some (.dK kvs)):kvs.length<=sizeLine/\(a==sysModules)=false/\∃ vs,KV kvs vs/\h.DictOf (ji P w) a vs:=JN ok (.inl e)
theorem ZC{ks:List Key}(ok:HOk P w H h)(e:H a=some (.tup (ks.map kV))):(tupleKind (ji P w)).is h ks a:=by
 obtain⟨_,its,r,o,h1,h2,n,h3⟩:=(show zK P w H h a (.tup (ks.map kV)) from ok a _ e)
 exact⟨o,its.toArray,n,h1,h2,h3,by simpa using zeu r⟩
theorem JZ{kvs:List #[48]}(ok:HOk P w H h)(e:Rd H a (.dT kvs)):kvs.length<=sizeLine/\(a==sysModules)=false/\
 ∃ xs,KT H kvs xs/\h.DictOfH (tupleKind (ji P w)) a xs:=by
 obtain⟨z,y,xs,r,o,es,ep,h1,h2,h3,h4,h5⟩:=(show zK P w H h a (.dT kvs) from zeL ok e)
 refine⟨z,y,xs,r,o,es,ep,h1,h2,h3,h4,fun x hx=>?_,h5⟩
 have all:∀ {l:List #[48]} {m:List (List Key×Addr×Value)},KT H l m->∀ x∈m,(tupleKind (ji P w)).is h x.1 x.2.1:=by
  intro l m q
  induction q with
  | nil=>intro x hx;exact nomatch hx
  | @cons p q ps qs hq t ih=>
   intro x hx
   rcases Wbm.mp hx with e|hx
   . subst e
     exact ZC ok (by rw [<-hq.1];exact hq.2.1)
   . exact ih x hx
 exact all r x hx
theorem znc{kvs:List #[48]}(ok:HOk P w H h)(e:H a=some (.dT kvs)):kvs.length<=sizeLine/\(a==sysModules)=false/\
 ∃ xs,KT H kvs xs/\h.DictOfH (tupleKind (ji P w)) a xs:=JZ ok (.inl e)
end
def DGet(H:Hp)(a:Addr)(y:V)(r:Option V):Prop:=
 (∃ kvs k,Rd H a (.dK kvs)/\y=kV k/\r=valV kvs k)\/∃ kvs k b,Rd H a (.dT kvs)/\y=.ref b/\H b=some (.tup (k.map kV))/\r=valV kvs k
def DPut(H:Hp)(a:Addr)(y v:V)(H':Hp):Prop:=
 (∃ kvs k,H a=some (.dK kvs)/\y=kV k/\kvs.length<sizeLine/\H'=upd H a (.dK (putK kvs k v)))\/
 ∃ kvs k b,H a=some (.dT kvs)/\y=.ref b/\H b=some (.tup (k.map kV))/\kvs.length<sizeLine/\H'=upd H a (.dT (putK kvs k v))
theorem DGet.k{H:Hp}{a:Addr}{kvs:List (Key×V)}{k:Key}(e:H a=some (.dK kvs)):DGet H a (kV k) (valV kvs k):=.inl ⟨kvs,k,.inl e,rfl,rfl⟩
theorem DGet.t{H:Hp}{a b:Addr}{kvs:List #[48]}{k:List Key}(e:H a=some (.dT kvs))(eb:H b=some (.tup (k.map kV))):DGet H a (.ref b) (valV kvs k):=.inr ⟨kvs,k,b,.inl e,rfl,eb,rfl⟩
theorem DPut.k{H:Hp}{a:Addr}{kvs:List (Key×V)}{k:Key}{v:V}(e:H a=some (.dK kvs))(hl:kvs.length<sizeLine):DPut H a (kV k) v (upd H a (.dK (putK kvs k v))):=.inl ⟨kvs,k,e,rfl,hl,rfl⟩
theorem DPut.t{H:Hp}{a b:Addr}{kvs:List #[48]}{k:List Key}{v:V}(e:H a=some (.dT kvs))(eb:H b=some (.tup (k.map kV)))(hl:kvs.length<sizeLine) :
 DPut H a (.ref b) v (upd H a (.dT (putK kvs k v))):=.inr ⟨kvs,k,b,e,rfl,eb,hl,rfl⟩
section
variable{X:Cx}{pins:List #[17]}{σ : St}{H:Hp}{s:Shared}{a:Addr}{y v:V}{u r:Value}{o:Option V}{A:Around}{E:#[11]}
theorem Inv.big(I:#[13]):sysModules<s.heap.objs.size:=by
 have h:mainGlobals<s.heap.objs.size:=(I.mod.glob.keeps I.bk).lt;exact Wbz #[1] h
theorem zmg{Q:#[11]}(hu:A.units+1<cLine)(I:#[13])(g:DGet H a y (some v))(ry:RelV y u)(h:∀ w' s',Inv X pins σ H s'->RelV v w'->Q w' s') :
 wpAny #[12] A (getItem (.ref a) u) Q E s:=by
 rcases g with ⟨kvs,k,e,ey,l⟩|⟨kvs,k,b,e,ey,eb,l⟩
 . subst ey
   obtain⟨z,hd,vs,rel,dd⟩:=JN I.hok e;obtain⟨w',hw,rw'⟩:=RelO.some_of (v:=v) (o:=valueAt vs k) (by rw [l];exact rel.val k)
   exact wpAny_getItem_of (Z9 ry) dd.mapOf hw (h w' _ (I.tok _) rw')
 . subst ey
   cases(show u=Value.ref b from ry)
   obtain⟨z,hd,xs,rel,dd⟩:=JZ I.hok e;obtain⟨w',hw,rw'⟩:=RelO.some_of (v:=v) (o:=(atKey xs k).map (·.2)) (by rw [l];exact rel.val k)
   obtain⟨p,hp,hp2⟩:=YaJ.mp hw;refine wpAny_getItem_heap (tupleKind_room_in1 hu) (ZC I.hok eb) dd hp ?_;rw [hp2];exact h w' _ (I.tok _) rw'
theorem zmB{Q:#[11]}(hu:A.units+1<cLine)(I:#[13])(g:DGet H a y o)(ry:RelV y u)(h:∀ s',Inv X pins σ H s'->Q (.bool (!o.isSome)) s') :
 wpAny #[12] A (compareOp .NotIn u (.ref a)) Q E s:=by
 rcases g with ⟨kvs,k,e,ey,l⟩|⟨kvs,k,b,e,ey,eb,l⟩
 . subst ey
   obtain⟨z,hd,vs,rel,dd⟩:=JN I.hok e;refine wpAny_notIn_of (Z9 ry) hd dd.mapOf ?_;rw [<-(rel.val k).isSome_eq,<-l];exact h _ (I.tok _)
 . subst ey
   cases(show u=Value.ref b from ry)
   obtain⟨z,hd,xs,rel,dd⟩:=JZ I.hok e;refine wpAny_notIn_heap (tupleKind_room_in1 hu) (ZC I.hok eb) hd dd ?_;have q:=(rel.val k).isSome_eq;rw [Option.isSome_map] at q;rw [<-q,<-l];exact h _ (I.tok _)
theorem zf7{h':Heap}{t':Nat}{ob:HO}(I:#[13])(mu:Mut (H a))(hs:Heap.SameBut a s.heap h')(he:∃ q,h'.get? a=some q)(new:zK X.prog X.w (upd H a ob) h' a ob) :
 Inv X pins σ (upd H a ob) { s with heap:=h',toks:=t' }:=
 I.write (x:=a) (e:=a) mu #[70] (fun b q hb z=>(hs.2 b hb).trans z) he new
theorem zhh{P:Program}{w:World}{H':Hp}{h':Heap}{kvs:List (Key×V)}{vs:List (Key×Value)}(z:kvs.length<=sizeLine)(hd:(a==sysModules)=false)(rel:KV kvs vs)(dd:h'.DictOf (ji P w) a vs) :
 zK P w H' h' a (.dK kvs):=⟨z,hd,vs,rel,dd⟩
theorem zkO{H':Hp}{Q:Unit->Shared->Prop}(hu:A.units+1<cLine)(I:#[13])(g:DPut H a y v H')(ry:RelV y u)(rv:RelV v r)(h:∀ s',Inv X pins σ H' s'->Q () s') :
 wpAny #[12] A (setItem (.ref a) u r) Q E s:=by
 rcases g with ⟨kvs,k,e,ey,l,eH⟩|⟨kvs,k,b,e,ey,eb,l,eH⟩
 . subst ey eH
   obtain⟨z,hd,vs,rel,dd⟩:=znk I.hok e;have hz:vs.length<=sizeLine:=by rw [<-rel.length];exact z
   have hl:(putK kvs k v).length<=sizeLine:=by have:=zeU kvs k v;omega
   refine wpAny_setItem_pairs (hsz:=hz) (Z9 ry) dd fun h' dd' hs=>h _ ?_
   have he:∃ q,h'.get? a=some q:=let ⟨q,_,_,hq,_⟩:=dd';⟨q,hq⟩;exact zf7 I (by rw [e];exact True.intro) hs he (zhh hl hd (rel.put k rv) dd')
 . subst ey eH
   cases(show u=Value.ref b from ry)
   obtain⟨z,hd,xs,rel,dd⟩:=znc I.hok e;have hz:xs.length<=sizeLine:=by rw [<-Wbl rel];exact z
   have hl:(putK kvs k v).length<=sizeLine:=by have:=zeU kvs k v;omega
   refine wpAny_setItem_heap (hsz:=hz) (tupleKind_room_in1 hu) (ZC I.hok eb) dd fun h' dd' hs=>h _ ?_
   obtain⟨q,es,ep,hq,h2,h3,h4,_,h5⟩:=dd';refine zf7 I (by rw [e];exact True.intro) hs ⟨q,hq⟩ ⟨hl,hd,_,(rel.put k eb rv).keeps fun c ys ec=>?_,q,es,ep,hq,h2,h3,h4,h5⟩
   rw [zj (zmR ec e (fun z=>nomatch z))]
   exact ec
end
section
variable{X:Cx}{pins:List #[17]}{σ : St}{H:Hp}{s:Shared}{a:Addr}{kvs:List (Key×V)}{k:Key}{u:Value}{A:Around}{E:#[11]}
end
def NoSl(i:Expr):Prop:=∀ ov iv,subscripted i false ov iv=operate [ov,iv] (getItem ov iv)
theorem zic{prog:Program}{w:World}{A:Around}{E:#[11]}{s:Shared}{env:Env}{value slice:Expr}{pos:Pos}{T id:String}{Q:#[11]}
 (hl:typeLookup (.type T) "__getitem__" = pure (some (.builtin id))) (hs:NoSl slice)
 (h:wpAny #[56] A (eval value env) (fun o s₁=>wpAny #[56] A (eval slice env) (fun i s₂=>s₂.TypeIs o T/\wpAny #[56] A (getItem o i) Q E s₂) E s₁) E s) :
 wpAny #[56] A (eval (.Subscript value slice pos) env) Q E s:=by
 refine Subscript_ (wpAny_mono h (fun o s₁ h₁=>wpAny_mono h₁ (fun i s₂ h₂=>?_) fun _ _ x=>x) fun _ _ x=>x)
 obtain⟨hT,h₂⟩:=h₂;unfold subscriptTail;refine wpAny_bind ?_;rw [getitemInPython_of_ne hT.not_modules];refine wpAny_bind (wpAny_specialOf hT hl ?_);have fin:wpAny #[56] A (subscripted slice false o i) (fun r s₃=>wpAny #[56] A (letTemporaryGo value o r >>= fun _=>pure r) Q E s₃) E s₂:=by
  rw [hs o i];exact wpAny_operating (wpAny_mono h₂ (fun r s₃ h₃=>wpAny_bind (wpAny_letTemporaryGo (wpAny_pure h₃))) fun _ _ x=>x)
 first
  | exact wpAny_pure (wpAny_bind fin)
  | exact wpAny_bind (wpAny_pure (wpAny_bind fin))
  | exact wpAny_bind fin
theorem zmW{X:Cx}{pins:List #[17]}{σ : St}{H:Hp}{s:Shared}{a:Addr}{y:V}{o:Option V}(I:#[13])(g:DGet H a y o):s.TypeIs (.ref a) "dict":=by
 rcases g with ⟨kvs,k,e,_,_⟩|⟨kvs,k,b,e,_,_,_⟩
 . obtain⟨_,_,vs,_,dd⟩:=JN I.hok e
   exact dd.typeIs
 . obtain⟨_,_,xs,_,dd⟩:=JZ I.hok e
   exact dd.typeIs
def zkA(td ty:TE):TE:=fun σ H Q=>td σ H fun x H1=>ty σ H1 fun y H2=>∃ a v,x=.ref a/\DGet H2 a y (some v)/\Q v H2
def ziL(ty td:TE):TE:=fun σ H Q=>ty σ H fun y H1=>td σ H1 fun x H2=>∃ a o,x=.ref a/\DGet H2 a y o/\Q (.bl (!o.isSome)) H2
def zim(td ty tv:TE):TS:=fun D σ H=>tv σ H fun v H1=>td σ H1 fun x H2=>ty σ H2 fun y H3=>∃ a H4,x=.ref a/\DPut H3 a y v H4/\D.nx σ H4
section
variable{X:Cx}{o i e value:Expr}{pos pos' tpos:Pos}{td ty tv:TE}
theorem zjj(hu:X.A.units+1<cLine)(ho:PE X o td)(hi:PE X i ty)(hs:NoSl i):PE X (.Subscript o i pos) (zkA td ty):=by
 intro pins s σ H Q I h;refine zic PySem.F.slot_dict_getitem.lookup hs (thn (ho pins s σ H _ I h) fun u s1 ⟨x,H1,I1,rx,q1⟩=>thn (hi pins s1 σ H1 _ I1 q1) fun iv s2 ⟨y,H2,I2,ry,a,v,ex,g,q2⟩=>?_)
 subst ex;obtain rfl:u=Value.ref a:=rx;exact⟨zmW I2 g,zmg hu I2 g ry fun w' s3 I3 rw'=>⟨v,H2,I3,rw',q2⟩⟩
theorem zfX(hu:X.A.units+1<cLine)(hi:PE X i ty)(ho:PE X o td):PC X .NotIn i o (ziL ty td):=by
 intro pins s σ H Q I h;refine thn (hi pins s σ H _ I h) fun iv s1 ⟨y,H1,I1,ry,q1⟩=>thn (ho pins s1 σ H1 _ I1 q1) fun u s2 ⟨x,H2,I2,rx,a,ov,ex,g,q2⟩=>?_
 subst ex;obtain rfl:u=Value.ref a:=rx;exact zmB hu I2 g ry fun s3 I3=>⟨.bl (!ov.isSome),H2,I3,rfl,q2⟩
theorem zeg(hu:X.A.units+1<cLine)(ho:PE X o td)(hi:PE X i ty)(hv:PE X value tv)(hs:swapsWith value (some (.Subscript o i pos')) pos.line X.env=pure false) :
 PS X (.Assign [.Subscript o i pos'] value pos) (zim td ty tv):=by
 intro pins s σ H D I h;refine wpAny_Assign_Subscript (thn (hv pins s σ H _ I h) fun r s1 ⟨v,H1,I1,rv,q1⟩=>thn (ho pins s1 σ H1 _ I1 q1) fun u s2 ⟨x,H2,I2,rx,q2⟩=>thn (hi pins s2 σ H2 _ I2 q2) fun iv s3 ⟨y,H3,I3,ry,a,H4,ex,g,q3⟩=>?_) hs
 subst ex;obtain rfl:u=Value.ref a:=rx;exact zkO hu I3 g ry rv fun s4 I4=>⟨σ,H4,I4,q3⟩
end
theorem zj1{P:Program}{w:World}{H:Hp}(h:Heap)(hb:sysModules<h.objs.size):zK P w H (h.push { cls:=.type "dict", data:=.dict #[] }) h.objs.size (.dK []):=
 ⟨WbF _,beq_eq_false_iff_ne.mpr (WbM (Yaf hb)),[],.nil,Heap.DictOf.new h⟩
theorem znH{P:Program}{w:World}{H:Hp}(h:Heap)(hb:sysModules<h.objs.size):zK P w H (h.push { cls:=.type "dict", data:=.dict #[] }) h.objs.size (.dT []):=
 ⟨WbF _,beq_eq_false_iff_ne.mpr (WbM (Yaf hb)),[],.nil,_,#[],0,Yan _ rfl,⟨rfl,rfl,rfl⟩,rfl,rfl,Wbk⟩
def tDNewK:TE:=fun _ H Q=>∀ p,H p=none->Q (.ref p) (upd H p (.dK []))
def tDNewT:TE:=fun _ H Q=>∀ p,H p=none->Q (.ref p) (upd H p (.dT []))
section
variable{X:Cx}{pos:Pos}
theorem zkr:PE X (.Dict [] [] pos) tDNewK:=fun pins s σ H Q I h=>
 wpAny_Dict_empty ⟨.ref s.heap.objs.size,_,I.laid (a:=s.heap.objs.size) (o:=.dK []) (t':=s.toks) (fun _ _ q=>YaW _ q) (YaY _) (zj1 s.heap I.big),rfl,h _ (I.hok.fresh (YaY _))⟩
theorem zgZ:PE X (.Dict [] [] pos) tDNewT:=fun pins s σ H Q I h=>
 wpAny_Dict_empty ⟨.ref s.heap.objs.size,_,I.laid (a:=s.heap.objs.size) (o:=.dT []) (t':=s.toks) (fun _ _ q=>YaW _ q) (YaY _) (znH s.heap I.big),rfl,h _ (I.hok.fresh (YaY _))⟩
end
end L2
namespace L3
open PySem PySem.Spec PyProof.Rows L2
variable[LamW]
def getT(ds:List #[33])(k:List Key):Option D:=(ds.find? fun kv=>decide (kv.1=k)).map (·.2)
def putT(ds:List #[33])(k:List Key)(d:D):List #[33]:=
 if(ds.any fun kv=>decide (kv.1=k))=true then ds.map (fun kv=>if kv.1=k then(kv.1,d) else kv) else ds++[(k,d)]
theorem Jj{k:List Key}{d:D}{ds:List #[33]}:getT ((k,d)::ds) k=some d:=by simp [getT]
theorem jW{k' k:List Key}{d:D}{ds:List #[33]}(e:¬k'=k):getT ((k',d)::ds) k=getT ds k:=by simp [getT,List.find?_cons,e]
section
variable{K:Ybf}{H0 G0:Hp}{ρ : Env3}{σ : L2.St}{G H:Hp}
theorem Dr.get{kvs:List #[48]}{ds:List #[33]}(r:Dr K H0 G kvs ds){k:List Key}{d:D}(h:getT ds k=some d):∃ v,valV kvs k=some v/\Rf K H0 G true v d:=by
 induction r with
 | nil=>cases h
 | cons a b ih=>
  rename_i k' v' d' kvs' ds'
  by_cases e:k'=k
  . subst e
    rw [Jj] at h;cases h;exact⟨v',zaw rfl,a⟩
  . rw [jW e] at h
    obtain⟨v,h1,h2⟩:=ih h;exact⟨v,by rw [ZB e];exact h1,h2⟩
theorem Dr.some{kvs:List #[48]}{ds:List #[33]}(r:Dr K H0 G kvs ds)(k:List Key):(valV kvs k).isSome=(getT ds k).isSome:=by
 induction r with
 | nil=>rfl
 | cons a b ih=>
  rename_i k' v' d' kvs' ds'
  by_cases e:k'=k
  . subst e;rw [zaw rfl,Jj];rfl
  . rw [ZB e,jW e];exact ih
theorem Dr.any{kvs:List #[48]}{ds:List #[33]}(r:Dr K H0 G kvs ds)(k:List Key):(kvs.any fun kv=>decide (kv.1=k))=ds.any fun kv=>decide (kv.1=k):=by
 induction r with
 | nil=>rfl
 | cons a b ih=>rw [List.any_cons,List.any_cons,ih]
theorem Dr.snoc{kvs:List #[48]}{ds:List #[33]}(r:Dr K H0 G kvs ds){k:List Key}{v:V}{d:D}(a:Rf K H0 G true v d):Dr K H0 G (kvs++[(k,v)]) (ds++[(k,d)]):=by
 induction r with
 | nil=>exact .cons a .nil
 | cons a b ih=>exact .cons a ih
theorem Dr.repl{kvs:List #[48]}{ds:List #[33]}(r:Dr K H0 G kvs ds){k:List Key}{v:V}{d:D}(a:Rf K H0 G true v d):Dr K H0 G (kvs.map fun kv=>if kv.1=k then(kv.1,v) else kv) (ds.map fun kv=>if kv.1=k then(kv.1,d) else kv):=by
 induction r with
 | nil=>exact .nil
 | cons b c ih=>
  rename_i k' v' d' kvs' ds';rw [Ya1,Ya1]
  by_cases e:k'=k
  . rw [if_pos e,if_pos e];exact .cons a ih
  . rw [if_neg e,if_neg e];exact .cons b ih
theorem Dr.put{kvs:List #[48]}{ds:List #[33]}(r:Dr K H0 G kvs ds){k:List Key}{v:V}{d:D}(a:Rf K H0 G true v d):Dr K H0 G (putK kvs k v) (putT ds k d):=by
 unfold putK putT;rw [r.any]
 split
 . exact r.repl a
 . exact r.snoc a
theorem Dr.length{kvs:List #[48]}{ds:List #[33]}(r:Dr K H0 G kvs ds):kvs.length=ds.length:=by
 induction r with
 | nil=>rfl
 | cons a b ih=>rw [List.length_cons,List.length_cons,ih]
theorem zcY(F:#[26]){i:Nat}{ds:List #[33]}(h:ρ[i]?=.some (.some (.dt ds))):∃ l kvs,σ[i]?=.some (.some (.ref l))/\H l=.some (.dT kvs)/\Dr K H0 G kvs ds/\G l=none:=by
 obtain⟨v,h1,h2⟩:=F.slot i _ h;cases h2 with
 | dt a b c=>exact⟨_,_,h1,a,b,c⟩
end
section
variable{X:Cx}{H0:Hp}{e a b:Expr}{pos:Pos}{x:Str}{i:Nat}
def zaJ(i:Nat):TS3:=fun A ρ=>A.nx (ρ.set i (some (.dt [])))
theorem znC{pos' p:Pos}(hN:X.N.Nodup)(hi:X.N[i]?=some x)(hx:#[60])(hs:swapsWith (.Dict [] [] p) (some (.Name x pos')) pos.line X.env=pure false:=by rfl)
 (hf:#[20]:=by first|exact .inl rfl|exact .inr rfl|assumption):PS3 X H0 (.Assign [.Name x pos'] (.Dict [] [] p) pos) (zaJ i):=PS.imp (JU hN hi hx zgZ hs hf) fun B σ H=>el7 fun G0 A ρ G F q L=>
 fun p hp=>L.nx _ _ G _ (F.put (zT hp _).x (.dt zt .nil (F.sub.free hp)) fun a h=>by cases h;exact hp) q
abbrev kk(a b:Int):List Key:=[.inl a,.inl b]
def zaf(i:Nat)(ta tb te:TE3):TS3:=fun A ρ=>∃ ds,ρ[i]?=some (some (.dt ds))/\te ρ fun c=>ta ρ fun ka=>tb ρ fun kb=>∃ d m n,c=.sh true d/\ka=.sh true (.int m)/\kb=.sh true (.int n)/\ds.length<sizeLine/\A.nx (ρ.set i (some (.dt (putT ds (kk m n) d))))
theorem ziU{ta tb te:TE3}{np tp spos:Pos}{k1}(hu:X.A.units+1<cLine)(hN:X.N[i]?=some x)(hv:Vis X.env.scope x)(ha:PE3 X H0 a ta)(hb:PE3 X H0 b tb)(he:PE3 X H0 e te)(hd:#[21]:=by decide)(hcd:#[27]:=by decide)
 (hs1:starEach [a,b] X.env=#[42]::starEach [b] X.env:=by rfl) (hs2:starEach [b] X.env=#[41]::starEach [] X.env:=by rfl)
 (hs:swapsWith e (some (.Subscript #[36] (.Tuple [a,b] k1 tp) spos)) pos.line X.env=pure false:=by rfl):PS3 X H0 (.Assign [.Subscript #[36] (.Tuple [a,b] k1 tp) spos] e pos) (zaf i ta tb te):=by
 refine PS.imp (zeg hu (jC hN hv hd hcd) (zcK (jn ha.ok (jn hb.ok jE hs2) hs1)) he.ok hs) fun B σ H hyp=>?_
 obtain⟨G0,A,ρ,G,F,⟨ds,hi,q⟩,L⟩:=hyp;refine⟨G0,ρ,G,F,he.mono ρ _ _ (fun c q1 v G1 H1 g1 w1=>?_) q⟩
 have F1:=F.gr g1;obtain⟨l,kvs,hl,_,_,_⟩:=zcY F1 hi;refine⟨.ref l,hl,G0,ρ,G1,F1,ha.mono ρ _ _ (fun ka q2 v2 G2 H2 g2 w2=>?_) q1⟩
 refine⟨G0,ρ,G2,F1.gr g2,hb.mono ρ _ _ (fun kb q3 v3 G3 H3 g3 w3=>?_) q2⟩
 obtain⟨d,m,n,e1,e2,e3,e4,q4⟩:=q3;subst e1 e2 e3;cases zB (zn w2).rd;cases zB (zn w3).rd;refine⟨show 2<=sizeLine by decide,fun p hp=>?_⟩
 have F3:=((F1.gr g2).gr g3).gr (Gr.apart (o:=.tup [.int m,.int n]) g3.sub hp);obtain⟨l',kvs',hl',k2,k3,k4⟩:=zcY F3 hi;rw [hl] at hl';cases hl';have rv:=(zn w1).same (g2.g.trans g3.g);exact⟨l,_,rfl,DPut.t (k:=kk m n) k2 zt (by rw [k3.length];exact e4),L.nx _ _ _ _ (F3.chg (c':=.dt (putT ds (kk m n) d)) hi hl rfl (fun _ h=>h) (.dt zt (k3.put rv) k4)) q4⟩
end
end L3
namespace PySem
open Sem (wp)
open AutoSeq1 (wpAny_loadPart')
section
variable{prog:Program}{w:World}{A:Around}{E:#[11]}{s:Shared}
end
end PySem
namespace L2
open PySem PySem.Spec PyProof.Rows
end L2
namespace L3
open PySem PySem.Spec PyProof.Rows L2
variable[LamW]
section
variable{X:Cx}{H0:Hp}{pos p:Pos}
def inD3:R3:=fun a b Q=>a.dat=true/\b.dat=true/\asLd b.d fun xs=>SeqAt.shaped a.d=true/\SeqAt.shaped (.list xs)=true/\Q true (.bool (xs.any fun y=>PyData.eqv y a.d))
theorem zh1(hu:X.A.units+65<cLine):OpOk X (compareOp .In) inD3:=by
 have ld:∀ {d:D} {P P':List D->Prop},(∀ xs,P xs->P' xs)->asLd d P->asLd d P':=fun {d P P'} h q=>by
  cases d with
  | list xs=>exact h xs q
  | _=>exact False.elim q
 refine⟨fun a b Q Q' h q=>⟨q.1,q.2.1,ld (fun xs z=>⟨z.1,z.2.1,h _ _ z.2.2⟩) q.2.2⟩,fun H0=>?_⟩
 intro pins s σ H x y v u Q I rx ry hyp;obtain⟨G,a,b,sm,wa,wb,ha,hb,q⟩:=hyp;have ra:=wa.rd sm ha;have rb:=wb.rd sm hb;cases e:b.d with
 | list xs=>
  rw [e] at q rb;obtain⟨s1,s2,q⟩:=q;obtain⟨as,r1⟩:=ra.reads I rx;obtain⟨bs,r2⟩:=rb.reads I ry;exact SeqAt.in_list_reads r2 r1 (Wav s2) (Wav s1) (room_in_shaped s1 hu) ⟨.bl _,H,I,rfl,q _ G H (Gr.refl sm) #[61]⟩
 | _=>rw [e] at q;exact False.elim q
def slT3(te:TE3)(tl th:TO3):TE3:=fun ρ Q=>te ρ fun c=>tl ρ fun l=>th ρ fun u=>asS c fun f d=>asT d fun ds=>¬(HT.sIx ds.length 0 l=0/\HT.sIx ds.length ds.length u=ds.length)/\Q (.sh (f||ds.all zq) (.tuple (cut ds l u)))
theorem zi4{e:Expr}{lo hi:Option Expr}{te:TE3}{tl th:TO3}{p2:Pos}(he:PE3 X H0 e te)(hl:PO3 X H0 lo tl)(hh:PO3 X H0 hi th):PE3 X H0 (.Subscript e (.Slice lo hi none p2) pos) (slT3 te tl th):=by
 refine⟨fun ρ Q Q' h q=>he.mono ρ _ _ (fun c=>hl.mono ρ _ _ fun l=>hh.mono ρ _ _ fun u q=>?_) q,PE.imp (zmI zi7 he.ok hl.ok hh.ok) fun σ H Q=>el5 fun G0 ρ G F q=>?_⟩
 . obtain⟨f,d,rfl,q⟩:=jV q
   obtain⟨ds,rfl,z,q⟩:=J9 q;exact⟨z,h _ q⟩
 . refine⟨G0,ρ,G,F,he.mono ρ _ _ (fun c qc v G1 H1 g1 w1=>⟨G0,ρ,G1,F.gr g1,hl.mono ρ _ _ (fun l ql G2 H2 g2=>⟨G0,ρ,G2,F.gr (g1.trans g2),hh.mono ρ _ _ (fun u qu G3 H3 g3=>?_) ql⟩) qc⟩) q⟩
   have w3:=(w1.gr g2).gr g3;have gg:=(g1.trans g2).trans g3;obtain⟨f,d,rfl,q⟩:=jV qu;obtain⟨ds,rfl,z,q⟩:=J9 q;obtain⟨a,xs,rfl,hq,rs⟩:=Zm (zn w3);refine⟨a,xs,rfl,g3.sub.tup hq,by rw [rs.length];exact z,fun p hp=>q (.ref p) (upd G3 p (.tup (cutV xs l u))) _ (gg.trans (Gr.put g3.sub hp)) ?_⟩
   have r:=zhY rs.or l u;exact .sh ⟨.tup (SqT.of zt) (rdvs_same (zT (g3.sub.free hp) _) r.rd),fun hf=>.tup zt (rdns_mono (zT (g3.sub.free hp) _) (fun _ _ _ z=>z) (r.nw hf))⟩
end
variable[LamW]
section
variable{K:Ybf}{H0 G0 G G' H:Hp}{ρ : Env3}{σ : L2.St}
end
section
variable{X:Cx}{H0:Hp}{e:Expr}
end
end L3
namespace L2
open PySem PySem.Spec PyProof.Rows
section
variable{X:Cx}
end
end L2
namespace L3
open PySem PySem.Spec PyProof.Rows L2
variable[LamW]
section
variable{X:Cx}{H0:Hp}{e a b:Expr}{pos:Pos}
theorem Rfs.rep{K:Ybf}{H0 G:Hp}{f:Bool}{vs:List V}{ds:List D}(r:Rfs K H0 G f vs ds)(n:Nat):Rfs K H0 G f (List.replicate n vs).flatten (List.replicate n ds).flatten:=by
 induction n with
 | zero=>exact Rfs.nil
 | succ n ih=>
  rw [List.replicate_succ,List.replicate_succ,List.flatten_cons,List.flatten_cons];have:=Rfs.append r ih;rwa [Wbq] at this
end
end L3
namespace L2
open PySem PySem.Spec PyProof.Rows
section
variable{X:Cx}
theorem zhv:zG X (.type "int") (fun xs H Q=>∃ b:Bool,xs=[.bl b]/\Q (.int (if b then 1 else 0)) H):=by
 intro pins s σ H xs us Q I r h;obtain⟨b,rfl,q⟩:=h;obtain⟨u,rfl,hu⟩:=jk r;cases hu;exact call_int_bool ⟨.int _,H,I.tok _,⟨_,rfl⟩,q⟩
end
end L2
namespace L3
open PySem PySem.Spec PyProof.Rows L2
variable[LamW]
section
variable{X:Cx}
def intB3:C3:=fun cs Q=>match cs with
 | [.sh _ (.bool b)]=>Q true (.int (if b then 1 else 0))
 | _=>False
theorem zhe:CallOk X (.type "int") intB3:=by
 refine⟨fun cs Q Q' h q=>?_,fun H0=>zG.imp zhv fun xs H Q=>el2 fun G cs s w q=>?_⟩
 . unfold intB3 at *;split at q
   . exact h _ _ q
   . exact q
 . unfold intB3 at q;split at q
   . obtain⟨v,rfl,w1⟩:=vws1 w
     have r:=(zn w1).rd;cases r;exact⟨_,rfl,q _ G H #[64] #[62]⟩
   . exact q.elim
end
end L3
namespace L2
open PySem PySem.Spec PyProof.Rows
theorem zba{M:Model}{A:Around}{E:#[11]}{s:Shared}{v:Value}{T:String}{name:Str}{id:String}{Q:Option Value->Shared->Prop}(S:Slot T name id)(h:s.TypeIs v T)(q:Q (some (.builtin id)) s):wpAny M A (specialOf v name) Q E s:=by
 unfold specialOf;refine wpAny_bind (wpAny_typeOf h ?_);rw [S.lookup];exact wpAny_pure q
theorem zdf{M:Model}{A:Around}{E:#[11]}{s:Shared}{self:Value}{T:String}{name:Str}{id:String}{Q:Option Value->Shared->Prop}(S:Slot T name id)(h:s.TypeIs self T)(q:wpAny M A (call (.builtin id) [self]) (fun v=>Q (some v)) E s):wpAny M A (callSpecial? self name) Q E s:=by
 unfold callSpecial?;refine wpAny_bind (zba S h ?_);dsimp only;refine wpAny_holding ?_;rw [S.bind];refine wpAny_bind (wpAny_pure ?_);dsimp only;refine wpAny_bind (wpAny_mono q (fun v s' h=>?_) fun _ _ h=>h)
 exact wpAny_pure h
theorem zjw{α : Type}{M:Model}{A:Around}{E:#[11]}{s:Shared}{Q:α->Shared->Prop}(hA:A.handled=none)(q:∀ h' e,(∀ b o,s.heap.get? b=some o->h'.get? b=some o)->(∃ ob,h'.get? e=some ob/\ob.cls=.type "StopIteration")->E (.ref e) { s with heap:=h' }):wpAny M A (newExc (.type "StopIteration") [] >>= fun x=>raiseNew x) Q E s:=by
 unfold newExc;refine wpAny_bind (wpAny_bind ?_);refine wpAny_newTuple ?_;unfold firstArgMember;dsimp only;refine wpAny_bind (wpAny_bind (wpAny_pure (wpAny_pure ?_)));refine wpAny_newObj_type (wpAny_raiseNew_none hA (q _ _ (fun b o e=>YaW _ (YaW _ e)) ⟨_,Yan _ rfl,rfl⟩)) ?_
 have e:ownMembersOf (Value.type "StopIteration") [] = #[]:=by rfl
 rw [e];exact(show 6<=sizeLine+2 by decide)
theorem JH{α β : Type}{F:α->β->Prop}:∀ {l:List α} {m:List β},Paired F l m->∀ {j:Nat} {a:α} {b:β},l[j]?=some a->m[j]?=some b->F a b
 | _,_,.nil,_,_,_,h,_=>by simp at h
 | _, _, .cons x r, 0, _, _, h, h' => by
  rw [List.getElem?_cons_zero] at h h';cases h;cases h';exact x
 | _, _, .cons x r, j + 1, _, _, h, h' => by
  rw [List.getElem?_cons_succ] at h h';exact JH r h h'
theorem zmV{X:Cx}{st:Stmt}{t:TS}(h:PS X st t):PS X st (fun B σ H=>∃ l kvs,H l=some (.dT kvs)/\∀ (o:Obj) (es:Array DictEntry) (ep:Nat) (as:#[55]),o.ExactDict->o.data=.dict es ep->es.toList.map (·.key)=as.map Value.ref->as.length=kvs.length->(∀ (j:Nat) (a:Addr) (k:List Key) (v:V),as[j]?=some a->kvs[j]?=some (k,v)->H a=some (.tup (k.map kV)))->t B σ (upd H l (.frz o (.dT kvs)))):=by
 intro pins s σ H B I hyp;obtain⟨l,kvs,hl,q⟩:=hyp;obtain⟨hz,hs,xs,hp,o,es,ep,ho,hx,he,hes,hnd⟩:=(show zK X.prog X.w H s.heap l (.dT kvs) from I.hok l _ hl)
 have hlen:kvs.length=xs.length:=Wbl hp;have hat:∀ (j:Nat) (a:Addr) (k:List Key) (v:V),(xs.map (·.2.1))[j]?=some a->kvs[j]?=some (k,v)->H a=some (.tup (k.map kV)):=fun j a k v ha hk=>by
  rw [Ya0] at ha;cases e:xs[j]? with
  | none=>rw [e] at ha;cases ha
  | some y=>
   rw [e] at ha;cases ha;exact(JH hp hk e).2.1
 have I':Inv X pins σ (upd H l (.frz o (.dT kvs))) s:=by
  refine I.write (h':=s.heap) (t':=s.toks) (e:=l) (by rw [hl];exact True.intro) #[70] (fun _ _ _ e=>e) ⟨o,ho⟩ ⟨ho,hz,hs,xs,Paired.mapP hp fun p y ⟨h1,h2,h3⟩=>⟨h1,(zj (fun z=>by rw [z,hl] at h2;cases h2)).trans h2,h3⟩,o,es,ep,ho,hx,he,hes,hnd⟩
 refine h pins s σ _ B I' (q o es ep (xs.map (·.2.1)) hx he ?_ (by rw [YaR];exact hlen.symm) hat)
 rw [hes,YaD,YaD]
 rfl
structure M1(X:Cx)(o:Expr)(m:Str)(apos:Pos)(e:Expr)(cpos:Pos):Prop where
 base:attributeBase o m X.env (eval o X.env)=eval o X.env
 few:((backTo cpos (starEach [e] X.env)).all (fun x=>!x.1)&&(backToKw cpos (keywordEach [] X.env)).all (fun x=>x.1.isSome)
  && decide (([e]:List Expr).length+([]:List Keyword).length+(if([]:List Keyword).isEmpty then 0 else 1)<30))=true
 line:(apos.endLine==cpos.line)=true
 trees:backTo cpos (starEach [e] X.env)=[(false,eval e X.env)]
def IsD(H:Hp)(a:Addr):Prop:=(∃ kvs,Rd H a (.dK kvs))\/∃ kvs,Rd H a (.dT kvs)
theorem zjT{X:Cx}{pins:List #[17]}{σ : St}{H:Hp}{s:Shared}{a:Addr}(I:#[13])(d:IsD H a) :
 s.TypeIs (.ref a) "dict"/\(∀ b,Value.ref a=.ref b->∃ ob,s.heap.get? b=some ob/\ob.dict=none)/\(a==sysModules)=false:=by
 rcases d with ⟨kvs,e⟩|⟨kvs,e⟩
 . obtain⟨_,hd,vs,_,dd⟩:=JN I.hok e
   refine⟨dd.typeIs,fun b q=>?_,hd⟩
   cases q;obtain⟨ob,_,_,h1,h2,_⟩:=dd
   exact⟨ob,h1,h2.2.1⟩
 . obtain⟨_,hd,xs,_,dd⟩:=JZ I.hok e
   refine⟨dd.typeIs,fun b q=>?_,hd⟩
   cases q;obtain⟨ob,_,_,h1,h2,_⟩:=dd
   exact⟨ob,h1,h2.2.1⟩
section
variable{X:Cx}{pins:List #[17]}{σ : St}{H:Hp}{s:Shared}{a:Addr}{y d:V}{u r:Value}{o:Option V}{A:Around}{E:#[11]}
theorem zjp{Q:#[11]}(hu:A.units+1<cLine)(I:#[13])(g:DGet H a y o)(ry:RelV y u)(h:∀ w' s',Inv X pins σ H s'->RelV (o.getD .non) w'->Q w' s') :
 wpAny #[12] A (call (.builtin "dict.get") [.ref a,u]) Q E s:=by
 rcases g with ⟨kvs,k,e,ey,l⟩|⟨kvs,k,b,e,ey,eb,l⟩
 . subst ey
   obtain⟨z,hd,vs,rel,dd⟩:=JN I.hok e;refine call_meetsIn PySem.F.slot_dict_get dd.typeIs PySem.F.entry_dict_get (PySem.F.args_dict_get_2 _ _) (meets_dict_get (ji X.prog X.w) a (Z9 ry) hd) ⟨_,dd.mapOf,h _ _ (I.tok _) ?_⟩;rw [l];exact(rel.val k).getD rfl
 . subst ey
   cases(show u=Value.ref b from ry)
   obtain⟨z,hd,xs,rel,dd⟩:=JZ I.hok e;refine call_meetsIn PySem.F.slot_dict_get dd.typeIs PySem.F.entry_dict_get (PySem.F.args_dict_get_2 _ _) (meetsH_dict_get (tupleKind (ji X.prog X.w)) a b hd) ⟨tupleKind_room_in1 hu,k,xs,ZC I.hok eb,dd,h _ _ (I.tok _) ?_⟩;rw [l];exact(rel.val k).getD rfl
end
def zhO(td ty:TE):TE:=fun σ H Q=>td σ H fun x H1=>∃ a,x=.ref a/\IsD H1 a/\ty σ H1 fun y H2=>∃ o,DGet H2 a y o/\Q (o.getD .non) H2
section
variable{X:Cx}{o e f:Expr}{apos cpos:Pos}{td ty tx:TE}
theorem znu(hu:X.A.units+1<cLine)(ho:PE X o td)(he:PE X e ty)(m:M1 X o "get" apos e cpos):PE X (.Call (.Attribute o "get" apos) [e] [] cpos) (zhO td ty):=by
 intro pins s σ H Q I h;refine wpAny_Call_method m.base m.few m.line PySem.F.plainAttrs_dict PySem.F.slot_dict_get PySem.F.type_dict_get (thn (ho pins s σ H _ I h) fun u s1 ⟨x,H1,I1,rx,a,ex,d,q1⟩=>?_)
 subst ex;obtain rfl:u=Value.ref a:=rx;obtain⟨t1,t2,_⟩:=zjT I1 d;refine⟨t1,t2,?_⟩;rw [m.trees];refine Calls.callWith_builtin rfl (Calls.evalArgs_plain (Calls.spliced_cons (thn (he pins s1 σ H1 _ I1 q1) fun iv s2 ⟨y,H2,I2,ry,ov,g,q2⟩=>Calls.spliced_nil ?_)))
 exact zjp hu I2 g ry fun w' s3 I3 rw'=>⟨_,H2,I3,rw',q2⟩
end
end L2
namespace L3
open PySem PySem.Spec PyProof.Rows L2
variable[LamW]
section
variable{K:Ybf}{H0 G0:Hp}{ρ : Env3}{σ : L2.St}{G H:Hp}
theorem Fr3.frzD(F:#[26]){i:Nat}{ds:List #[33]}{l:Addr}{kvs:List #[48]}(hi:ρ[i]?=some (some (.dt ds)))(hv:σ[i]?=some (some (.ref l)))(hl:H l=some (.dT kvs))(r:Dr K H0 G kvs ds)(hG:G l=none){o:Obj}{es:Array DictEntry}{ep:Nat}{as:#[55]}(hx:o.ExactDict)(he:o.data=.dict es ep)(ha:es.toList.map (·.key)=as.map Value.ref)(hn:as.length=kvs.length)
 (hk:∀ (j:Nat) (a:Addr) (k:List Key) (v:V),as[j]?=some a->kvs[j]?=some (k,v)->H a=some (.tup (k.map kV))):∃ G',Same G G'/\Fr3 K H0 G0 (ρ.set i (some (.fd ds))) σ G' (upd H l (.frz o (.dT kvs))):=by
 have hat:∀ a∈as,∃ xs,H a=some (.tup xs):=fun a h=>by
  obtain⟨j,hj,e⟩:=Yam h;have hj':j<kvs.length:=#[0]
  exact⟨_,hk j a kvs[j].1 kvs[j].2 (by rw [YaQ hj,e]) (YaQ hj')⟩
 have hla:l∉as:=fun h=>by
  obtain⟨xs,e⟩:=hat l h;rw [hl] at e;cases e
 have h0:H0 l=none:=F.mine i _ _ l hi hv rfl;have e1:(fun b=>if b=l then some (.frz o (.dT kvs)) else if b∈as then H b else G b:Hp) l=some (.frz o (.dT kvs)):=if_pos rfl
 have e2:∀ b,b≠l->b∈as->(fun b=>if b=l then some (.frz o (.dT kvs)) else if b∈as then H b else G b:Hp) b=H b:=fun b n m=>by simp only [if_neg n,if_pos m]
 have e3:∀ b,b≠l->b∉as->(fun b=>if b=l then some (.frz o (.dT kvs)) else if b∈as then H b else G b:Hp) b=G b:=fun b n m=>by simp only [if_neg n,if_neg m]
 generalize (fun b=>if b=l then some (.frz o (.dT kvs)) else if b∈as then H b else G b:Hp)=G' at e1 e2 e3
 have gg:Same G G':=fun b u e=>by
  have nb:b≠l:=fun z=>by rw [z,hG] at e;cases e
  by_cases m:b∈as
  . rw [e2 b nb m];exact F.sub.s b u e
  . rw [e3 b nb m];exact e
 refine⟨G',gg,F.keep.chg h0 hl (fun f z=>by cases z),⟨fun b u e=>?_,fun b f e=>?_⟩,fun b u e=>?_,F.g0.trans gg,fun j c2 e=>?_,fun j c2 v2 a e e' h=>?_,fun j k c1 c2 v1 v2 a q1 q2 q3 q4 h1 h2=>?_,by rw [YaN];exact F.len⟩
 . by_cases nb:b=l
   . subst nb;rw [e1] at e;rw [zt];exact e
   . rw [zj nb]
     by_cases m:b∈as
     . rw [e2 b nb m] at e;exact e
     . rw [e3 b nb m] at e;exact F.sub.s b u e
 . by_cases nb:b=l
   . subst nb;rw [e1] at e;cases e
   . by_cases m:b∈as
     . obtain⟨xs,z⟩:=hat b m
       rw [e2 b nb m,z] at e;cases e
     . rw [e3 b nb m] at e;exact F.sub.cl b f e
 . by_cases nb:b=l
   . subst nb;exact .inr (.inl h0)
   . by_cases m:b∈as
     . obtain⟨xs,z⟩:=hat b m
       rw [e2 b nb m,z] at e;exact .inr (.inr ⟨xs,(Wba e).symm⟩)
     . rw [e3 b nb m] at e;exact F.old b u e
 . rcases zL e with ⟨rfl,q,_⟩|⟨n,q⟩
   . cases q
     refine⟨_,hv,.fd e1 (r.same gg) ⟨es,ep,as,hx,he,ha,hn,fun j a k v z1 z2=>?_⟩⟩
     have hm:a∈as:=Yah z1;rw [e2 a (fun z=>hla (z ▸ hm)) hm]
     exact hk j a k v z1 z2
   . obtain⟨v',h1,h2⟩:=F.slot j c2 q
     refine⟨v',h1,h2.turn gg (fun a C z=>?_) fun a h3=>?_⟩
     . rw [zj (fun y=>by rw [y,hl] at z;cases z)];exact z
     . have nb:a≠l:=fun z=>n (F.apart i j _ c2 _ v' a hi q hv h1 (by rw [z];rfl) h3)
       refine⟨zj nb,e3 a nb fun m=>?_⟩
       obtain⟨xs,z⟩:=hat a m;exact h2.ntup h3 xs z
 . rcases zL e with ⟨rfl,q,_⟩|⟨n,q⟩
   . cases q;exact False.elim h
   . exact F.mine j c2 v2 a q e' h
 . rcases zL q1 with ⟨rfl,q,_⟩|⟨n,q⟩
   . cases q;exact False.elim h1
   . rcases zL q2 with ⟨rfl,q',_⟩|⟨n',q'⟩
     . cases q';exact False.elim h2
     . exact F.apart j k c1 c2 v1 v2 a q q' q3 q4 h1 h2
theorem zgR(F:#[26]){i:Nat}{ds:List #[33]}(h:ρ[i]?=some (some (.fd ds))):∃ l o kvs,σ[i]?=some (some (.ref l))/\G l=some (.frz o (.dT kvs))/\Dr K H0 G kvs ds/\KAt G o kvs:=by
 obtain⟨v,h1,h2⟩:=F.slot i _ h;cases h2 with
 | fd a b c=>exact⟨_,_,_,h1,a,b,c⟩
theorem Dr.keys{kvs:List #[48]}{ds:List #[33]}(r:Dr K H0 G kvs ds):kvs.map (·.1)=ds.map (·.1):=by
 induction r with
 | nil=>rfl
 | cons a b ih=>rw [Ya1,Ya1,ih]
end
section
variable{X:Cx}{H0:Hp}{st:Stmt}{pos:Pos}{x:Str}{i:Nat}
def frzD(i:Nat)(t:TS3):TS3:=fun A ρ=>∃ ds,ρ[i]?=some (some (.dt ds))/\t A (ρ.set i (some (.fd ds)))
theorem zjt(i:Nat){t:TS3}(h:PS3 X H0 st t):PS3 X H0 st (frzD i t):=PS.imp (zmV h) fun B σ H hyp=>by
 obtain⟨G0,A,ρ,G,F,⟨ds,hi,q⟩,L⟩:=hyp;obtain⟨l,kvs,hv,hl,r,hG⟩:=zcY F hi;refine⟨l,kvs,hl,fun o es ep as hx he ha hn hk=>?_⟩
 obtain⟨G',gg,F'⟩:=F.frzD hi hv hl r hG hx he ha hn hk;exact⟨G0,A,_,G',F',q,L⟩
end
section
variable{K:Ybf}{H0 G0:Hp}{ρ : Env3}{σ : L2.St}{G H:Hp}
end
section
variable{X:Cx}{H0:Hp}{pos:Pos}{x y:Str}{i j:Nat}
end
variable[LamW]
abbrev Tb:=List (Int×Int)
def dms:List Cl->List Addr
 | []=>[]
 | .dm a _::r=>a::dms r
 | .sh _ _::r=>dms r
 | .ow _ _::r=>dms r
 | .tr _ _::r=>dms r
 | .dt _::r=>dms r
 | .dk _::r=>dms r
 | .fd _::r=>dms r
 | .tk _::r=>dms r
 | .ex _::r=>dms r
def jj:Cl->Bool
 | .sh _ _=>true
 | .dm _ _=>true
 | .fd ds=>ds.all fun p=>zq p.2
 | .ow _ _=>false
 | .tr _ _=>false
 | .dt _=>false
 | .dk _=>false
 | .tk _=>false
 | .ex _=>false
def argC:Cl->Cl
 | .sh _ d=>.sh (zq d) d
 | .dm a ds=>.dm a ds
 | .fd ds=>.fd ds
 | .ow f ds=>.ow f ds
 | .tr a b=>.tr a b
 | .dt a=>.dt a
 | .dk a=>.dk a
 | .tk a=>.tk a
 | .ex a=>.ex a
def Js:Cl->Bool
 | .sh _ _=>true
 | .dt _=>true
 | .dm _ _=>false
 | .fd _=>false
 | .ow _ _=>false
 | .tr _ _=>false
 | .dk _=>false
 | .tk _=>false
 | .ex _=>false
theorem zch(cs:List Cl):dms (cs.map argC)=dms cs:=by
 induction cs with
 | nil=>rfl
 | cons c r ih=>cases c<;>first|exact ih|exact congrArg (List.cons _) ih
theorem zbY{cs:List Cl}{i:Nat}{a:Addr}{ds:Tb}(h:cs[i]?=some (.dm a ds)):a∈dms cs:=by
 induction cs generalizing i with
 | nil=>simp at h
 | cons c r ih=>
  cases i with
  | zero=>cases h;exact YaV
  | succ i=>
   have:=ih (i:=i) (by simpa using h)
   cases c<;>first|exact this|exact YaT _ this
theorem ziI{cs:List Cl}{i j:Nat}{a:Addr}{ds es:Tb}(nd:(dms cs).Nodup)(h:cs[i]?=some (.dm a ds))(h':cs[j]?=some (.dm a es)):i=j:=by
 induction cs generalizing i j with
 | nil=>simp at h
 | cons c r ih=>
  cases i with
  | zero=>
   cases h;cases j with
   | zero=>rfl
   | succ j=>exact absurd (zbY (i:=j) (by simpa using h')) (YaB.mp nd).1
  | succ i=>
   cases j with
   | zero=>
    cases h';exact absurd (zbY (i:=i) (by simpa using h)) (YaB.mp nd).1
   | succ j=>
    have nd':(dms r).Nodup:=by cases c<;>first|exact nd|exact(YaB.mp nd).2
    rw [ih nd' (i:=i) (j:=j) (by simpa using h) (by simpa using h')]
def bar(H:Hp)(as:#[55]):Hp:=fun b=>if b∈as then none else H b
theorem zgs{H:Hp}{as:#[55]}{b:Addr}(h:b∈as):bar H as b=none:=if_pos h
theorem Jb{H:Hp}{as:#[55]}{b:Addr}(h:b∉as):bar H as b=H b:=if_neg h
theorem zjO(H:Hp)(as:#[55]):Same (bar H as) H:=fun b o e=>by
 by_cases h:b∈as
 . rw [zgs h] at e;cases e
 . rwa [Jb h] at e
theorem zcP{H:Hp}{as:#[55]}{b:Addr}(h:bar H as b=none):b∈as\/H b=none:=by
 by_cases z:b∈as
 . exact .inl z
 . rw [Jb z] at h;exact .inr h
def Bk(G H:Hp):List Addr->List Tb->Prop
 | [],[]=>True
 | a::as,m::ms=>(H a=some (.dK (encM m))/\G a=none)/\Bk G H as ms
 | _,_=>False
abbrev SpC:=List Cl->(Cl->List Tb->Prop)->Prop
def spC(K:Ybf)(sp:SpC):Sp:=fun vs H Q _=>∃ G cs,Sub G H/\Vws K (bar H (dms cs)) G H vs cs/\(dms cs).Nodup/\
 sp cs fun c ms=>∀ v G' H',Gr G (bar H (dms cs)) G' H'->Vw K (bar H (dms cs)) G' H' v c->(∀ a,Has c v a->H a=none)->Bk G' H' (dms cs) ms->Js c=true->Q v H'
structure DfC(P:Program)(w:World)(K:Ybf)(mg:#[15])(base:Heap)(k:Nat)(x:Str)(ps:List Str)(sp:SpC):Prop where
 mono:∀ cs (Q Q':Cl->List Tb->Prop),(∀ c ms,Q c ms->Q' c ms)->sp cs Q->sp cs Q'
 ok:Df P w K mg base k x ps (spC K sp)
def j4(N:List Str)(cs:List Cl):Env3:=cs.map some++List.replicate (N.length - cs.length) none
def finM:List Nat->List Addr->Env3->(List Tb->Prop)->Prop
 | [],[],_,Q=>Q []
 | j::js,a::as,ρ,Q=>∃ m,ρ[j]?=some (some (.dm a m))/\finM js as ρ fun ms=>Q (m::ms)
 | _,_,_,_=>False
theorem Vws.length{K:Ybf}{H0 G H:Hp}{vs:List V}{cs:List Cl}(h:Vws K H0 G H vs cs):vs.length=cs.length:=zfj h
theorem Vws.get{K:Ybf}{H0 G H:Hp}{vs:List V}{cs:List Cl}(h:Vws K H0 G H vs cs){i:Nat}{c:Cl}(e:cs[i]?=some c):∃ v,vs[i]?=some v/\Vw K H0 G H v c:=by
 induction h generalizing i with
 | nil=>simp at e
 | cons a b ih=>
  cases i with
  | zero=>cases e;exact⟨_,rfl,a⟩
  | succ i=>exact ih (i:=i) (by simpa using e)
section
variable{K:Ybf}{H0 G0:Hp}{ρ : Env3}{σ : L2.St}{G H:Hp}
theorem jg(F:#[26]){i:Nat}{a:Addr}{ds:Tb}(h:ρ[i]?=some (some (.dm a ds))):σ[i]?=some (some (.ref a))/\H a=some (.dK (encM ds))/\G a=none:=by
 obtain⟨v,h1,h2⟩:=F.slot i _ h;cases h2 with
 | dm x y=>exact⟨h1,x,y⟩
theorem zcA(F:#[26]):∀ {js:List Nat} {as:#[55]} {R:List Tb->Prop},finM js as ρ R->(∃ ms,Bk G H as ms/\R ms)/\∀ a∈as,∃ (j:Nat) (m:Tb),ρ[j]?=some (some (Cl.dm a m))
 | [],[],R,h=>⟨⟨[],True.intro,h⟩,fun a z=>by cases z⟩
 | j :: js, a :: as, R, ⟨m, hj, h⟩ => by
  obtain⟨⟨ms,h1,h2⟩,h3⟩:=zcA F h;refine⟨⟨m::ms,⟨(jg F hj).2,h1⟩,h2⟩,fun b hb=>?_⟩
  rcases Wbm.mp hb with e|hb
  . rw [e];exact⟨j,m,hj⟩
  . exact h3 b hb
 | [],_::_,_,h=>h.elim
 | _::_,[],_,h=>h.elim
end
theorem zlU{K:Ybf}{G H:Hp}{N:List Str}{vs:List V}{cs:List Cl}(s:Sub G H)(w:Vws K (bar H (dms cs)) G H vs cs)(nd:(dms cs).Nodup)(hd:∀ c∈cs,jj c=true):Fr3 K (bar H (dms cs)) G (j4 N cs) (start N vs) G H:=by
 have at3:∀ (i:Nat) c,(j4 N cs)[i]?=some (some c)->cs[i]?=some c:=fun i c e=>by
  unfold j4 at e
  by_cases hi:i<cs.length
  . rw [Yab (by simpa using hi),Ya0] at e
    cases q:cs[i]? with
    | none=>rw [q] at e;cases e
    | some d=>rw [q] at e;cases e;rfl
  . rw [Yae (by simpa using hi),Yad] at e
    split at e<;>cases e
 have own:∀ (i:Nat) c v a,cs[i]?=some c->Vw K (bar H (dms cs)) G H v c->Has c v a->∃ ds,c=.dm a ds:=fun i c v a e hw h=>by
  have:=hd c (Yah e);cases hw with
  | dm _ _=>cases h;exact⟨_,rfl⟩
  | sh _=>exact False.elim h
  | fd _ _ _=>exact False.elim h
  | _=>cases this
 have len:=w.length;have σat:∀ (i:Nat) c,cs[i]?=some c->∃ v,(start N vs)[i]?=some (some v)/\Vw K (bar H (dms cs)) G H v c:=fun i c e=>by
  obtain⟨v,hv,hw⟩:=w.get e;refine⟨v,?_,hw⟩;unfold L2.start;have hi:i<vs.length:=(Ya8.mp hv).1;rw [Yab (by simpa using hi),Ya0,hv];rfl
 refine⟨(zjO _ _).x,s,fun b o e=>.inl e,Same.refl _,fun i c e=>σat i c (at3 i c e),fun i c v a e e' h=>?_,fun i j c c' v v' a e e' z z' h h'=>?_,?_⟩
 . obtain⟨v',h1,hw⟩:=σat i c (at3 i c e)
   rw [e'] at h1;cases h1;obtain⟨ds,rfl⟩:=own i c v a (at3 i c e) hw h;exact zgs (zbY (at3 i _ e))
 . obtain⟨u,h1,hw⟩:=σat i c (at3 i c e)
   rw [z] at h1;cases h1;obtain⟨u',h1',hw'⟩:=σat j c' (at3 j c' e');rw [z'] at h1';cases h1';obtain⟨ds,rfl⟩:=own i c v a (at3 i c e) hw h;obtain⟨es,rfl⟩:=own j c' v' a (at3 j c' e') hw' h';exact ziI nd (at3 i _ e) (at3 j _ e')
 . unfold j4 L2.start;simp [len]
theorem fnC{P:Program}{w:World}{K:Ybf}{mg:#[15]}{base:Heap}{x qual:Str}{st:Stmt}{f:Addr}{fd:FuncData}{N ps:List Str}{k:Nat}{sp:SpC}(M:List Nat)(F:Fun K x qual st f fd)(S:FnScope N ps (zh st))(len:∀ cs Q,sp cs Q->cs.length=ps.length/\∀ c∈cs,jj c=true)
 (hbody:∀ (cdv:Value) (A:Around) (outer:List Env) (s:Shared) (H H0:Hp) (E:XK) (E3:Addr->Prop),(∀ C H',E3 C->zz H0 H'->E (.ref C) none H')->Room k (A.deeper (envOfC qual (zh st) s.heap.objs.size f cdv))->
  ∃ t,PSs3 (cxOf (CXR P w) P w K mg base N qual (zh st) f cdv A outer s H E) H0 (Jd st) t/\∀ cs Q,sp cs Q->t { nx:=fun ρ=>finM M (dms cs) ρ (Q (.sh true .none)),rt:=fun _ _=>False,rm:=fun c ρ=>Js c=true/\finM M (dms cs) ρ (Q c) } (j4 N cs)):FnOk P w K mg base (CXR P w) (k+1) f fd ps (spC K sp):=by
 refine F.okR S (fun vs H Q E h=>?_) (fun cdv A outer s H vs Q E hr h=>?_)
 . obtain⟨G,cs,_,r,_,h⟩:=h
   rw [r.length];exact(len _ _ h).1
 . obtain⟨G,cs,sG,r,nd,h⟩:=h
   obtain⟨t,ht,hq⟩:=hbody cdv A outer s H (bar H (dms cs)) E (fun _=>False) (fun C H' e _=>e.elim) hr
   refine⟨_,ht,G,_,j4 N cs,G,zlU sG r nd (len _ _ h).2,hq cs _ h,⟨fun ρ σ G' H' F' q=>?_,fun f d v G' H' g rd q=>q.elim,fun _ _ _ _ _ q=>q.elim,fun _ _ _ _ _ q=>q.elim,fun c v ρ σ G' H' F' w' n' q=>?_⟩⟩
   . obtain⟨⟨ms,b,q⟩,_⟩:=zcA F' q
     exact q .non G' H' F'.gr0 (.sh (.sc rfl .non)) (fun a z=>False.elim z) b rfl
   . obtain⟨hres,q⟩:=q
     obtain⟨⟨ms,b,q⟩,hh⟩:=zcA F' q;refine q v G' H' F'.gr0 w' (fun a z=>?_) b hres
     obtain⟨n1,n2⟩:=n' a z
     rcases zcP n1 with y|y
     . obtain⟨j,m,hj⟩:=hh a y
       exact absurd rfl (n2 j _ _ hj (jg F' hj).1)
     . exact y
variable[LamW]
def holds(ρ : Env3):List Nat->List Addr->Prop
 | [],[]=>True
 | j::js,a::as=>(∃ m,ρ[j]?=some (some (.dm a m)))/\holds ρ js as
 | _,_=>False
def updM:List Nat->List Addr->List Tb->Env3->Env3
 | j::js,a::as,m::ms,ρ=>updM js as ms (ρ.set j (some (.dm a m)))
 | _,_,_,ρ=>ρ
section
variable{K:Ybf}{H0 G0:Hp}{ρ : Env3}{σ : L2.St}{G H G' H':Hp}
theorem Zu{ρ : Env3}:∀ {js:List Nat} {as:#[55]},holds ρ js as->∀ a∈as,∃ (j:Nat) (m:Tb),j∈js/\ρ[j]?=some (some (Cl.dm a m))
 | [],[],_,a,h=>by cases h
 | j :: js, a :: as, ⟨⟨m, hm⟩, h⟩, b, hb => by
  rcases Wbm.mp hb with e|hb
  . rw [e];exact⟨j,m,YaV,hm⟩
  . obtain⟨i,n,h1,h2⟩:=Zu h b hb
    exact⟨i,n,YaT _ h1,h2⟩
 | [],_::_,h,_,_=>h.elim
 | _::_,[],h,_,_=>h.elim
theorem zfR(F:#[26]):∀ {js:List Nat} {as:#[55]},js.Nodup->holds ρ js as->as.Nodup
 | [],[],_,_=>Wbk
 | j :: js, a :: as, nd, ⟨⟨m, hm⟩, h⟩ => by
  obtain⟨n1,n2⟩:=YaB.mp nd;refine YaB.mpr ⟨fun z=>?_,zfR F n2 h⟩
  obtain⟨i,n,h1,h2⟩:=Zu h a z;have e:=F.apart j i _ _ _ _ a hm h2 (jg F hm).1 (jg F h2).1 rfl rfl;exact n1 (e ▸ h1)
 | [],_::_,_,h=>h.elim
 | _::_,[],_,h=>h.elim
theorem zfU{ρ : Env3}{j:Nat}{o:Option Cl}:∀ {js:List Nat} {as:#[55]},j∉js->holds ρ js as->holds (ρ.set j o) js as
 | [],[],_,_=>True.intro
 | i::js,a::as,n,⟨⟨m,hm⟩,h⟩=>⟨⟨m,by rw [Yac (show j≠i from fun z=>n (by rw [z];exact YaV))];exact hm⟩,zfU (fun z=>n (YaT _ z)) h⟩
 | [],_::_,_,h=>h.elim
 | _::_,[],_,h=>h.elim
theorem zds:∀ (js:List Nat) (as:#[55]) (ms:List Tb) (ρ : Env3),(updM js as ms ρ).length = ρ.length
 | [],_,_,_=>rfl
 | _::_,[],_,_=>rfl
 | _::_,_::_,[],_=>rfl
 | j::js,a::as,m::ms,ρ=>by show(updM js as ms (ρ.set j _)).length=_;rw [zds,YaN]
theorem zc3{G' H':Hp}:∀ {js:List Nat} {as:#[55]} {ms:List Tb} {ρ : Env3},js.Nodup->holds ρ js as->Bk G' H' as ms->∀ (i:Nat) (c:Cl),(updM js as ms ρ)[i]?=some (some c)->
 (i∉js/\ρ[i]?=some (some c))\/∃ a m m0,c=.dm a m/\a∈as/\ρ[i]?=some (some (.dm a m0))/\H' a=some (.dK (encM m))/\G' a=none
 | [],[],[],ρ,_,_,_,i,c,e=>.inl ⟨by simp,e⟩
 | j :: js, a :: as, m :: ms, ρ, nd, ⟨⟨m0, hm⟩, h⟩, ⟨b0, b⟩, i, c, e => by
  obtain⟨n1,n2⟩:=YaB.mp nd
  rcases zc3 n2 (zfU n1 h) b i c e with ⟨h1,h2⟩|⟨a',m',m0',h1,h2,h3,h4⟩
  . rcases zL h2 with ⟨rfl,q,_⟩|⟨n,q⟩
    . cases q
      exact .inr ⟨a,m,m0,rfl,YaV,hm,b0⟩
    . exact .inl ⟨fun z=>by
       rcases Wbm.mp z with z|z
       . exact n z.symm
       . exact h1 z,q⟩
  . rcases zL h3 with ⟨rfl,q,_⟩|⟨n,q⟩
    . cases q
      exact .inr ⟨a,m',m0,h1,YaV,hm,h4⟩
    . exact .inr ⟨a',m',m0',h1,YaT _ h2,q,h4⟩
 | [],_::_,_,_,_,h,_,_,_,_=>h.elim
 | _::_,[],_,_,_,h,_,_,_,_=>h.elim
 | _::_,_::_,[],_,_,_,b,_,_,_=>b.elim
 | [],[],_::_,_,_,_,b,_,_,_=>b.elim
theorem Fr3.called(F:#[26]){js:List Nat}{as:#[55]}{ms:List Tb}(nd:js.Nodup)(ho:holds ρ js as)(g:Gr G (bar H as) G' H')(b:Bk G' H' as ms):Fr3 K H0 G0 (updM js as ms ρ) σ G' H':=by
 have mem:∀ a∈as,H0 a=none/\∃ m:Tb,H a=some (.dK (encM m)):=fun a h=>by
  obtain⟨j,m,_,hj⟩:=Zu ho a h;obtain⟨h1,h2,h3⟩:=jg F hj;exact⟨F.mine j _ _ a hj h1 rfl,m,h2⟩
 have key:=fun i c=>zc3 (ρ:=ρ) nd ho b i c
 have oth:∀ (i:Nat) (c:Cl) (v:V) (a:Addr),i∉js->ρ[i]?=some (some c)->σ[i]?=some (some v)->Has c v a->a∉as:=fun i c v a n e e' h z=>by
  obtain⟨j,m,hj,hm⟩:=Zu ho a z;have:=F.apart i j _ _ _ _ a e hm e' (jg F hm).1 h rfl;exact n (this ▸ hj)
 have kp:zz H0 H':=fun c o e=>by
  have nc:c∉as:=fun z=>by rw [(mem c z).1] at e;cases e
  rcases F.keep c o e with z|⟨z,n,c',h1,h2⟩
  . exact g.h c o ((Jb nc).trans z)
  . refine .inr ⟨z,n,Lk.same ⟨c',(Jb nc).trans h1,(Jb fun y=>?_).trans h2⟩ g.h⟩
    obtain⟨m,hm⟩:=(mem c' y).2;rw [hm] at h2;cases h2
 refine⟨kp,g.sub,fun c o e=>?_,F.g0.trans g.g,fun i c e=>?_,fun i c v a e e' h=>?_,fun i j c c' v v' a e1 e2 e3 e4 h1 h2=>?_,by rw [zds];exact F.len⟩
 . rcases g.new c o e with q|q|q
   . exact F.old c o q
   . rcases zcP q with y|y
     . exact .inr (.inl (mem c y).1)
     . exact .inr (.inl (F.keep.free y))
   . exact .inr (.inr q)
 . rcases key i c e with ⟨n,q⟩|⟨a,m,m0,rfl,ha,q,h1,h2⟩
   . obtain⟨v,hv,hw⟩:=F.slot i c q
     refine⟨v,hv,hw.turn g.g (fun a C z=>?_) fun a h=>?_⟩
     . refine g.h.exc ((Jb fun y=>?_).trans z)
       obtain⟨m,hm⟩:=(mem a y).2;rw [hm] at z;cases z
     . have na:=oth i c v a n q hv h
       obtain⟨⟨o,ho,no⟩,hG⟩:=hw.has h;have hb:bar H as a=some o:=(Jb na).trans ho;refine⟨(g.h.at hb no).trans ho.symm,(g.hid hb hG no fun xs z=>?_).trans hG.symm⟩
       exact hw.ntup h xs ((Jb na).symm.trans z)
   . exact⟨_,(jg F q).1,.dm h1 h2⟩
 . rcases key i c e with ⟨n,q⟩|⟨a',m,m0,rfl,ha,q,h1,h2⟩
   . exact F.mine i c v a q e' h
   . exact F.mine i _ v a q e' h
 . have up:∀ (i:Nat) (c:Cl) (v:V) (a:Addr),(updM js as ms ρ)[i]?=some (some c)->Has c v a->∃ c0,ρ[i]?=some (some c0)/\Has c0 v a:=fun i c v a e h=>by
    rcases key i c e with ⟨n,q⟩|⟨a',m,m0,rfl,ha,q,h1,h2⟩
    . exact⟨c,q,h⟩
    . exact⟨_,q,h⟩
   obtain⟨c1,q1,k1⟩:=up i c v a e1 h1;obtain⟨c2,q2,k2⟩:=up j c' v' a e2 h2;exact F.apart i j c1 c2 v v' a q1 q2 e3 e4 k1 k2
theorem zmk(F:#[26]){js:List Nat}{as:#[55]}{ms:List Tb}(nd:js.Nodup)(ho:holds ρ js as)(b:Bk G' H' as ms){i:Nat}{c:Cl}{v:V}{a:Addr}(e:(updM js as ms ρ)[i]?=some (some c))(e':σ[i]?=some (some v))(h:Has c v a):H a≠none:=by
 have:∃ c0,ρ[i]?=some (some c0)/\Has c0 v a:=by
  rcases zc3 (ρ:=ρ) nd ho b i c e with ⟨n,q⟩|⟨a',m,m0,rfl,ha,q,h1,h2⟩
  . exact⟨c,q,h⟩
  . exact⟨_,q,h⟩
 obtain⟨c0,q,k⟩:=this;obtain⟨⟨o,ho,_⟩,_⟩:=(F.vw q e').has k;rw [ho];intro z;cases z
theorem Fr3.putN(F:#[26]){i:Nat}{v:V}{c:Cl}(w:Vw K H0 G H v c)(h0:∀ a,Has c v a->H0 a=none)(hn:∀ (a:Addr) (j:Nat) (c':Cl) (v':V),Has c v a->ρ[j]?=some (some c')->σ[j]?=some (some v')->¬Has c' v' a):Fr3 K H0 G0 (ρ.set i (some c)) (σ.set i (some v)) G H:=by
 have key:∀ {k:Nat} {c':Cl},(ρ.set i (some c))[k]?=some (some c')->(k=i/\c'=c/\(σ.set i (some v))[k]?=some (some v))\/(k≠i/\ρ[k]?=some (some c')/\(σ.set i (some v))[k]? = σ[k]?):=fun {k c'} e=>by
  rcases zL e with ⟨rfl,q,hl⟩|⟨n,q⟩
  . cases q
    exact .inl ⟨rfl,rfl,Yas (by rw [<-F.len];exact hl)⟩
  . exact .inr ⟨WbM n,q,Yac n⟩
 refine⟨F.keep,F.sub,F.old,F.g0,fun k c' e=>?_,fun k c' v' a e e' h=>?_,fun k m c1 c2 v1 v2 a e1 e2 e3 e4 h1 h2=>?_,by rw [YaN,YaN];exact F.len⟩
 . rcases key e with ⟨rfl,rfl,q⟩|⟨n,q,z⟩
   . exact⟨v,q,w⟩
   . obtain⟨v',h1,h2⟩:=F.slot k c' q
     exact⟨v',by rw [z];exact h1,h2⟩
 . rcases key e with ⟨rfl,rfl,q⟩|⟨n,q,z⟩
   . rw [q] at e';cases e';exact h0 a h
   . rw [z] at e';exact F.mine k c' v' a q e' h
 . rcases key e1 with ⟨rfl,rfl,q⟩|⟨n,q,z⟩
   . rw [q] at e3;cases e3
     rcases key e2 with ⟨rfl,_,_⟩|⟨n,q',z⟩
     . rfl
     . rw [z] at e4;exact absurd h2 (hn a m c2 v2 h1 q' e4)
   . rw [z] at e3
     rcases key e2 with ⟨rfl,rfl,q'⟩|⟨n',q',z'⟩
     . rw [q'] at e4;cases e4;exact absurd h1 (hn a k c1 v1 h2 q e3)
     . rw [z'] at e4;exact F.apart k m c1 c2 v1 v2 a q q' e3 e4 h1 h2
theorem Fr3.forget(F:#[26])(i:Nat):Fr3 K H0 G0 (ρ.set i none) σ G H:=by
 have key:∀ {k:Nat} {c':Cl},(ρ.set i none)[k]?=some (some c')->k≠i/\ρ[k]?=some (some c'):=fun {k c'} e=>by
  rcases zL e with ⟨rfl,q,hl⟩|⟨n,q⟩
  . cases q
  . exact⟨WbM n,q⟩
 exact⟨F.keep,F.sub,F.old,F.g0,fun k c e=>F.slot k c (key e).2,fun k c v a e e' h=>F.mine k c v a (key e).2 e' h,fun k m c1 c2 v1 v2 a e1 e2 e3 e4 h1 h2=>F.apart k m c1 c2 v1 v2 a (key e1).2 (key e2).2 e3 e4 h1 h2,by rw [YaN];exact F.len⟩
theorem Dr.scal{H1:Hp}{kvs:List #[48]}{ds:List #[33]}(r:Dr K H0 G kvs ds)(h:(ds.all fun p=>zq p.2)=true):Dr K H1 G kvs ds:=by
 induction r with
 | nil=>exact .nil
 | cons a b ih=>
  rw [List.all_cons,Yak] at h;exact .cons (.sc h.1 a.rd) (ih h.2)
theorem Dr.older{H1:Hp}(hh:∀ a,H0 a=none->H1 a=none){kvs:List #[48]}{ds:List #[33]}(r:Dr K H0 G kvs ds):Dr K H1 G kvs ds:=by
 induction r with
 | nil=>exact .nil
 | cons a b ih=>exact .cons ⟨a.rd,fun hf=>jM (Same.refl _) (fun x _ _ z=>hh x z) (a.nw hf)⟩ ih
theorem Vw.arg{H1:Hp}{v:V}{c:Cl}(w:Vw K H0 G H v c)(h:jj c=true):Vw K H1 G H v (argC c):=by
 cases w with
 | sh r=>exact .sh ⟨r.rd,fun h=>Zw h r.rd⟩
 | dm a b=>exact .dm a b
 | fd a b c=>exact .fd a (b.scal h) c
 | _=>cases h
theorem Vws.arg{H1:Hp}{vs:List V}{cs:List Cl}(w:Vws K H0 G H vs cs)(h:cs.all jj=true):Vws K H1 G H vs (cs.map argC):=by
 induction w with
 | nil=>exact .nil
 | cons a b ih=>
  rw [List.all_cons,Yak] at h;exact .cons (a.arg h.1) (ih h.2)
theorem Vw.res{H1:Hp}{v:V}{c:Cl}(w:Vw K H0 G H v c)(hh:∀ a,H0 a=none->H1 a=none)(h:Js c=true):Vw K H1 G H v c:=by
 cases w with
 | sh r=>exact .sh ⟨r.rd,fun hf=>jM (Same.refl _) (fun x _ _ z=>hh x z) (r.nw hf)⟩
 | dt a b c=>exact .dt a (b.older hh) c
 | _=>cases h
theorem zb8{sp:SpC}(mono:∀ cs (Q Q':Cl->List Tb->Prop),(∀ c ms,Q c ms->Q' c ms)->sp cs Q->sp cs Q')(F:#[26]){vs:List V}{cs:List Cl}(w:Vws K H0 G H vs cs){js:List Nat}(nd:js.Nodup)(ha:cs.all jj=true)(ho:holds ρ js (dms cs)){R:Cl->Env3->Prop}(h:sp (cs.map argC) fun c ms=>R c (updM js (dms cs) ms ρ)){Q:VK}{E:XK}
 (q:∀ c ρ' v G' H',Fr3 K H0 G0 ρ' σ G' H'->zz (bar H (dms cs)) H'->Gr G (bar H (dms cs)) G' H'->Vw K H0 G' H' v c->(∀ a,Has c v a->H0 a=none/\∀ (j:Nat) (c':Cl) (v':V),ρ'[j]?=some (some c')->σ[j]?=some (some v')->¬Has c' v' a)->R c ρ'->Q v H'):spC K sp vs H Q E:=by
 have hh:∀ a,bar H (dms cs) a=none->H0 a=none:=fun a z=>by
  rcases zcP z with y|y
  . obtain⟨j,m,_,hj⟩:=Zu ho a y
    exact F.mine j _ _ a hj (jg F hj).1 rfl
  . exact F.keep.free y
 refine⟨G,cs.map argC,F.sub,by rw [zch];exact w.arg ha,by rw [zch];exact zfR F nd ho,mono _ _ _ (fun c ms k v G' H' g w' n' b hres=>?_) h⟩
 rw [zch] at g w' b;refine q c _ v G' H' (F.called nd ho g b) g.h g (w'.res hh hres) (fun a z=>⟨F.keep.free (n' a z),fun j c' v' e e' y=>zmk F nd ho b e e' y (n' a z)⟩) k
end
section
variable{X:Cx}{H0:Hp}{e:Expr}{es:#[54]}{pos p:Pos}{x y:Str}{k:Nat}{ps:List Str}{sp:SpC}{E:XK}{t:TA3}
def JT(sp:SpC)(t:TA3)(js:List Nat)(R:Cl->Env3->Prop)(ρ : Env3):Prop:=t ρ fun cs=>cs.all jj=true/\holds ρ js (dms cs)/\sp (cs.map argC) fun c ms=>R c (updM js (dms cs) ms ρ)
def zaF(i:Nat)(sp:SpC)(t:TA3)(js:List Nat):TS3:=fun A ρ=>JT sp t js (fun c ρ'=>A.nx (ρ'.set i (some c))) ρ
theorem zct{i:Nat}{pos' spos:Pos}(js:List Nat)(nd:js.Nodup)(hN:X.N.Nodup)(hi:X.N[i]?=some y)(hy:Loc X.env.scope y)(Gd:DfC X.prog X.w X.K X.mg X.base k x ps sp)(hr:Room k X.A)(hg:Gl X x)(hx:Passes (CXR X.prog X.w) X E)(ha:PA3 X H0 (e::es) t)(hdb:#[21]:=by decide)
 (he:#[14]:=by rfl) (hpl:(backTo pos #[46]).any (·.1)=false:=by rfl) (hs:swapsWith #[30] (some (.Name y pos')) spos.line X.env=pure false:=by rfl)
 (hf:X.fn y=true\/X.env.scope.names.lookup y=some .local:=by first|exact .inl rfl|exact .inr rfl|assumption):PS3 X H0 (.Assign [.Name y pos'] #[30] spos) (zaF i sp t js):=
 PS.imp (JU hN hi hy (ZW Gd.ok hr hg hx ha.ok hdb he hpl) hs hf) fun B σ H=>el7 fun G0 A ρ G F q L=>⟨G0,ρ,G,F,ha.mono ρ _ _ (fun cs hyp vs G1 H1 g1 w=>by
  obtain⟨h1,h2,h3⟩:=hyp;show spC X.K sp (vs++[]) H1 _ E;rw [Yao];exact zb8 (R:=fun c ρ'=>A.nx (ρ'.set i (some c))) Gd.mono (F.gr g1) w nd h1 h2 h3 fun c ρ' v G' H' F' _ _ w' n' k=>L.nx _ _ G' H' (F'.putN w' (fun a z=>(n' a z).1) fun a j c' v' z=>(n' a z).2 j c' v') k) q⟩
def zaN(sp:SpC)(t:TA3)(js:List Nat):TS3:=fun A ρ=>JT sp t js (fun _ ρ'=>A.nx ρ') ρ
theorem zil{spos:Pos}(js:List Nat)(nd:js.Nodup)(Gd:DfC X.prog X.w X.K X.mg X.base k x ps sp)(hr:Room k X.A)(hg:Gl X x)(hx:Passes (CXR X.prog X.w) X E)(ha:PA3 X H0 (e::es) t)(hdb:#[21]:=by decide)
 (he:#[14]:=by rfl) (hpl:(backTo pos #[46]).any (·.1)=false:=by rfl) (hs:swapsWith #[30] none spos.line X.env=pure false:=by rfl):PS3 X H0 (.Expr #[30] spos) (zaN sp t js):=
 PS.imp (Za (ZW Gd.ok hr hg hx ha.ok hdb he hpl) hs) fun B σ H=>el7 fun G0 A ρ G F q L=>⟨G0,ρ,G,F,ha.mono ρ _ _ (fun cs hyp vs G1 H1 g1 w=>by
  obtain⟨h1,h2,h3⟩:=hyp;show spC X.K sp (vs++[]) H1 _ E;rw [Yao];exact zb8 (R:=fun _ ρ'=>A.nx ρ') Gd.mono (F.gr g1) w nd h1 h2 h3 fun c ρ' v G' H' F' _ _ w' n' k=>L.nx _ _ G' H' F' k) q⟩
def zaB(sp:SpC)(t:TA3):TE3:=fun ρ Q=>t ρ fun cs=>cs.all jj=true/\dms cs=[]/\sp (cs.map argC) fun c _=>∃ f d,c=.sh f d/\Q (.sh f d)
theorem dfX{E:XK}(Gd:DfC X.prog X.w X.K X.mg X.base k x ps sp)(hr:Room k X.A)(hg:Gl X x)(hx:Passes (CXR X.prog X.w) X E)(ha:PA3 X H0 (e::es) t)(hdb:#[21]:=by decide)
 (he:#[14]:=by rfl) (hpl:(backTo pos #[46]).any (·.1)=false:=by rfl):PE3 X H0 #[30] (zaB sp t):=by
 refine⟨fun ρ Q Q' h q=>ha.mono ρ _ _ (fun cs ⟨a,b,q⟩=>⟨a,b,Gd.mono _ _ _ (fun c ms ⟨f,d,e,q⟩=>⟨f,d,e,h _ q⟩) q⟩) q,PE.imp (ZW Gd.ok hr hg hx ha.ok hdb he hpl) fun σ H Q=>el5 fun G0 ρ G F q=>⟨G0,ρ,G,F,ha.mono ρ _ _ (fun cs hyp vs G1 H1 g1 w=>?_) q⟩⟩
 obtain⟨h1,h2,h3⟩:=hyp;show spC X.K sp (vs++[]) H1 Q E;rw [Yao];refine zb8 (js:=[]) Gd.mono (F.gr g1) w Wbk h1 (by rw [h2];exact True.intro) (R:=fun c _=>∃ f d,c=.sh f d/\∀ (v:V) (G' H':Hp),Gr G H G' H'->Vw X.K H0 G' H' v (.sh f d)->Q v H') h3 fun c ρ' v G' H' F' _ g' w' n' k=>?_
 obtain⟨f,d,rfl,k⟩:=k;rw [h2] at g';have e:bar H1 []=H1:=funext fun b=>Jb (by simp)
 rw [e] at g';exact k v G' H' (g1.trans g') w'
def Z6(te:TE3):TS3:=fun A ρ=>te ρ fun c=>asS c fun f d=>A.rm (.sh f d) ρ
theorem za5{te:TE3}(he:PE3 X H0 e te):PS3 X H0 (.Return (some e) pos) (Z6 te):=PS.imp (zcc he.ok) fun B σ H=>el7 fun G0 A ρ G F q L=>
 ⟨G0,ρ,G,F,he.mono ρ _ _ (fun c hyp v G' H' g w=>by
  obtain⟨f,d,hc,q⟩:=jV hyp;subst hc;exact L.rm _ v ρ σ G' H' (F.gr g) w (fun a z=>False.elim z) q) q⟩
def Zn(i:Nat):TS3:=fun A ρ=>∃ ds,ρ[i]?=some (some (.dt ds))/\A.rm (.dt ds) (ρ.set i none)
theorem znJ{i:Nat}{np:Pos}(hN:X.N[i]?=some x)(hv:Vis X.env.scope x)(hd:#[21]:=by decide)(hcd:#[27]:=by decide):PS3 X H0 (.Return (some #[36]) pos) (Zn i):=PS.imp (zcc (jC hN hv hd hcd)) fun B σ H hyp=>by
 obtain⟨G0,A,ρ,G,F,⟨ds,hi,q⟩,L⟩:=hyp;obtain⟨v,h1,h2⟩:=F.slot i _ hi;refine⟨v,h1,L.rm _ v _ σ G H (F.forget i) h2 (fun a z=>⟨F.mine i _ v a hi h1 z,fun j c' v' e e' y=>?_⟩) q⟩
 rcases zL e with ⟨rfl,q,_⟩|⟨n,q⟩
 . cases q
 . exact n (F.apart i j _ _ _ _ a hi q h1 e' z y)
end
end L3
namespace L2
open PySem PySem.Spec PyProof.Rows L3
section
variable{X:Cx}
theorem zl0(hc:X.calm=true):zG X (.builtin "sorted") (fun xs H Q=>∃ (p:Addr) (ns:List Int),xs=[.ref p]/\SqL X.K H p (ns.map V.int)/\ns.length<64/\∀ ms:List Int,ms.Perm ns->ms.Pairwise (·<=·)->∀ l,H l=none->Q (.ref l) (upd H l (.lst (ms.map V.int)))):=by
 intro pins s σ H xs us Q I r h;obtain⟨p,ns,rfl,hq,hlt,q⟩:=h;obtain⟨u,rfl,ru⟩:=jk r;cases(show u=Value.ref p from ru)
 obtain⟨its,rv,pl,_⟩:=I.list hq;have hI:=zbp rv;have hln:=hI.length;refine sorted_ints pl.isList hI (by rw [hln];exact hlt) fun out ms a1 a2 a3=>?_
 obtain⟨e,he⟩:=sortedAll_at s.heap its out;have hl2:=a2.length_eq;refine⟨.ref #[32],_,I.laid (t':=s.toks) (o:=.lst (ms.map V.int)) (fun b ob q=>sortedAll_old q) (Nat.le_succ _) ⟨?_,out.toList,e,zbH a1,he⟩,rfl,q ms a2 a3 _ (I.hok.fresh (Nat.le_succ _))⟩
 rw [YaR,hl2,sizeLine_eq];omega
end
end L2
namespace L3
open PySem PySem.Spec PyProof.Rows L2
variable[LamW]
def getM(ds:Tb)(k:Int):Option Int:=(ds.find? fun p=>decide (p.1=k)).map (·.2)
def putM(ds:Tb)(k v:Int):Tb:=if(ds.any fun p=>decide (p.1=k))=true then ds.map (fun p=>if p.1=k then(p.1,v) else p) else ds++[(k,v)]
def optI:Option Int->D
 | none=>.none
 | some i=>.int i
theorem zgv(a k:Int):decide ((Sum.inl a:Key)=Sum.inl k)=decide (a=k):=by
 by_cases e:a=k
 . rw [e];simp
 . rw [decide_eq_false e,decide_eq_false fun z=>e (Sum.inl.inj z)]
theorem zcM(ds:Tb)(k:Int):valV (encM ds) (Sum.inl k)=(getM ds k).map V.int:=by
 unfold valV getM encM
 induction ds with
 | nil=>rfl
 | cons p r ih=>
  rw [Ya1,List.find?_cons,List.find?_cons,zgv]
  by_cases e:p.1=k
  . rw [decide_eq_true e];rfl
  . rw [decide_eq_false e];exact ih
theorem zjF(ds:Tb)(k v:Int):putK (encM ds) (Sum.inl k) (.int v)=encM (putM ds k v):=by
 have ha:((encM ds).any fun kv=>decide (kv.1=(Sum.inl k:Key)))=ds.any fun p=>decide (p.1=k):=by
  unfold encM;rw [List.any_map]
  congr 1
  funext p
  exact zgv p.1 k
 unfold putK putM;rw [ha]
 split
 . unfold encM
   rw [YaD,YaD];refine Yat fun p _=>?_
   show(if(Sum.inl p.1:Key)=Sum.inl k then _ else _)=_
   by_cases e:p.1=k
   . rw [if_pos (by rw [e])]
     simp only [Function.comp,if_pos e]
   . rw [if_neg fun z=>e (Sum.inl.inj z)]
     simp only [Function.comp,if_neg e]
 . unfold encM
   rw [Ya2];rfl
theorem ziv(ds:Tb):(encM ds).length=ds.length:=YaR _
section
variable{X:Cx}{H0:Hp}{e a b:Expr}{pos:Pos}{x:Str}{i:Nat}
def ZR(i:Nat):TS3:=fun A ρ=>∀ a,A.nx (ρ.set i (some (.dm a [])))
theorem zce{pos' p:Pos}(hN:X.N.Nodup)(hi:X.N[i]?=some x)(hx:#[60])(hs:swapsWith (.Dict [] [] p) (some (.Name x pos')) pos.line X.env=pure false:=by rfl)
 (hf:#[20]:=by first|exact .inl rfl|exact .inr rfl|assumption):PS3 X H0 (.Assign [.Name x pos'] (.Dict [] [] p) pos) (ZR i):=PS.imp (JU hN hi hx zkr hs hf) fun B σ H=>el7 fun G0 A ρ G F q L=>
 fun p hp=>L.nx _ _ G _ (F.put (zT hp _).x (.dm (ds:=[]) zt (F.sub.free hp)) fun a h=>by cases h;exact hp) (q p)
def zam(i:Nat)(ta te:TE3):TS3:=fun A ρ=>∃ l ds,ρ[i]?=some (some (.dm l ds))/\te ρ fun c=>ta ρ fun ck=>asI ck fun k=>asI c fun v=>ds.length<sizeLine/\A.nx (ρ.set i (some (.dm l (putM ds k v))))
theorem zbU{ta te:TE3}{np spos:Pos}(hu:X.A.units+1<cLine)(hN:X.N[i]?=some x)(hv:Vis X.env.scope x)(ha:PE3 X H0 a ta)(he:PE3 X H0 e te)(hd:#[21]:=by decide)(hcd:#[27]:=by decide)
 (hs:swapsWith e (some (.Subscript #[36] a spos)) pos.line X.env=pure false:=by rfl):PS3 X H0 (.Assign [.Subscript #[36] a spos] e pos) (zam i ta te):=by
 refine PS.imp (zeg hu (jC hN hv hd hcd) ha.ok he.ok hs) fun B σ H hyp=>?_
 obtain⟨G0,A,ρ,G,F,⟨l,ds,hi,q⟩,L⟩:=hyp;refine⟨G0,ρ,G,F,he.mono ρ _ _ (fun c q1 v1 G1 H1 g1 w1=>?_) q⟩
 have F1:=F.gr g1;refine⟨.ref l,(jg F1 hi).1,G0,ρ,G1,F1,ha.mono ρ _ _ (fun ck q2 v2 G2 H2 g2 w2=>?_) q1⟩
 obtain⟨k,rfl,q3⟩:=jy q2;obtain⟨v,rfl,e4,q4⟩:=jy q3;cases zB (zn w1).rd;cases zB (zn w2).rd;have F2:=F1.gr g2;obtain⟨hl,k2,k4⟩:=jg F2 hi;exact⟨l,_,rfl,DPut.k (k:=Sum.inl k) k2 (by rw [ziv];exact e4),L.nx _ _ _ _ (F2.chg (c':=.dm l (putM ds k v)) hi hl rfl (fun _ h=>h) (.dm (by rw [zt,zjF]) k4)) q4⟩
def ZP(i:Nat)(ta:TE3):TE3:=fun ρ Q=>∃ l ds,ρ[i]?=some (some (.dm l ds))/\ta ρ fun c=>asI c fun k=>∃ v,getM ds k=some v/\Q (.sh true (.int v))
theorem zbJ{ta:TE3}{np:Pos}(hu:X.A.units+1<cLine)(hN:X.N[i]?=some x)(hv:Vis X.env.scope x)(ha:PE3 X H0 a ta)(hd:#[21]:=by decide)(hcd:#[27]:=by decide)(hs:NoSl a:=by exact fun _ _=>rfl):PE3 X H0 (.Subscript #[36] a pos) (ZP i ta):=by
 refine⟨fun ρ Q Q' h ⟨l,ds,hi,q⟩=>⟨l,ds,hi,ha.mono ρ _ _ (fun c q=>?_) q⟩,PE.imp (zjj hu (jC hN hv hd hcd) ha.ok hs) fun σ H Q=>el5 fun G0 ρ G F q=>?_⟩
 . obtain⟨k,rfl,v,e,q⟩:=jy q
   exact⟨v,e,h _ q⟩
 obtain⟨l,ds,hi,q⟩:=q;refine⟨.ref l,(jg F hi).1,G0,ρ,G,F,ha.mono ρ _ _ (fun c q2 v2 G2 H2 g2 w2=>?_) q⟩
 obtain⟨k,rfl,v,e,q⟩:=jy q2;cases zB (zn w2).rd;obtain⟨_,k2,_⟩:=jg (F.gr g2) hi;have g:=DGet.k (k:=Sum.inl k) k2;rw [zcM,e] at g;exact⟨l,_,rfl,g,q _ G2 H2 g2 (.sh (.sc rfl (.int v)))⟩
def zaG(i:Nat)(ta:TE3):TE3:=fun ρ Q=>∃ l ds,ρ[i]?=some (some (.dm l ds))/\ta ρ fun c=>asI c fun k=>Q (.sh true (optI (getM ds k)))
theorem zlT{ta:TE3}{np apos cpos:Pos}(hu:X.A.units+1<cLine)(hN:X.N[i]?=some x)(hv:Vis X.env.scope x)(ha:PE3 X H0 a ta)(m:M1 X #[36] "get" apos a cpos:=by exact⟨rfl,rfl,rfl,rfl⟩)(hd:#[21]:=by decide)(hcd:#[27]:=by decide):PE3 X H0 (.Call (.Attribute #[36] "get" apos) [a] [] cpos) (zaG i ta):=by
 refine⟨fun ρ Q Q' h ⟨l,ds,hi,q⟩=>⟨l,ds,hi,ha.mono ρ _ _ (fun c q=>?_) q⟩,PE.imp (znu hu (jC hN hv hd hcd) ha.ok m) fun σ H Q=>el5 fun G0 ρ G F q=>?_⟩
 . obtain⟨k,rfl,q⟩:=jy q
   exact h _ q
 obtain⟨l,ds,hi,q⟩:=q;obtain⟨hl,h2,_⟩:=jg F hi;refine⟨.ref l,hl,l,rfl,.inl ⟨_,.inl h2⟩,G0,ρ,G,F,ha.mono ρ _ _ (fun c q2 v2 G2 H2 g2 w2=>?_) q⟩
 obtain⟨k,rfl,q⟩:=jy q2;cases zB (zn w2).rd;obtain⟨_,k2,_⟩:=jg (F.gr g2) hi;have g:=DGet.k (k:=Sum.inl k) k2;rw [zcM] at g;refine⟨_,g,?_⟩;cases e:getM ds k with
 | none=>rw [e] at q;exact q _ G2 H2 g2 (.sh (.sc rfl .non))
 | some v=>rw [e] at q;exact q _ G2 H2 g2 (.sh (.sc rfl (.int v)))
def ZZ(i:Nat)(ta:TE3):TE3:=fun ρ Q=>∃ l ds,ρ[i]?=some (some (.dm l ds))/\ta ρ fun c=>asI c fun k=>Q (.sh true (.bool (!(getM ds k).isSome)))
theorem zcC{ta:TE3}{np:Pos}(hu:X.A.units+1<cLine)(hN:X.N[i]?=some x)(hv:Vis X.env.scope x)(ha:PE3 X H0 a ta)(hm:behindInMarks .NotIn #[36]=false:=by rfl)(hd:#[21]:=by decide)(hcd:#[27]:=by decide):PT3 X H0 (.Compare a [.NotIn] [.Name x np] pos) (tt3 (ZZ i ta)):=by
 refine⟨za2 fun ρ Q Q' h q=>?_,PT.imp (ziN (zfX hu ha.ok (jC hN hv hd hcd)) hm) fun σ H Q=>el5 fun G0 ρ G F q=>?_⟩
 . obtain⟨l,ds,hi,q⟩:=q
   refine⟨l,ds,hi,ha.mono ρ _ _ (fun c q=>?_) q⟩
   obtain⟨k,rfl,q⟩:=jy q;exact h _ q
 obtain⟨l,ds,hi,q⟩:=q;refine⟨G0,ρ,G,F,ha.mono ρ _ _ (fun c q2 v2 G2 H2 g2 w2=>?_) q⟩
 obtain⟨k,rfl,q⟩:=jy q2;cases zB (zn w2).rd;obtain⟨hl,k2,_⟩:=jg (F.gr g2) hi;have g:=DGet.k (k:=Sum.inl k) k2;rw [zcM] at g;exact⟨.ref l,hl,l,_,rfl,g,_,rfl,by rw [Option.isSome_map];exact q _ _ g2⟩
def srtL(ta:TA3):TN3:=fun ρ Q=>ta ρ fun cs=>∃ c,cs=[c]/\c.dat=true/\∃ ns:List Int,c.d=.list (ns.map .int)/\ns.length<64/\∀ ms:List Int,ms.Perm ns->ms.Pairwise (·<=·)->Q true (ms.map PyData.int)
theorem zbx{K:Ybf}{G:Hp}:∀ {ns:List Int} {xs:List V},RdVs K G xs (ns.map PyData.int)->xs=ns.map V.int
 | [],_,.nil=>rfl
 | n :: r, _, .cons a t => by
  cases a;rw [zbx t];rfl
theorem zgp{K:Ybf}{H0 G:Hp}(ns:List Int):Rfs K H0 G true (ns.map V.int) (ns.map PyData.int):=by
 induction ns with
 | nil=>exact Rfs.nil
 | cons a r ih=>exact Rfs.cons (f:=true) (.sc rfl (.int a)) ih
theorem zjg{np:Pos}{ta:TA3}(hc:X.calm=true)(hg:Gl X "sorted")(hm:X.mg "sorted" = none)(ha:PA3 X H0 [a] ta)
 (he:starEach [a] X.env=#[42]::starEach [] X.env:=by rfl) (hpl:(backTo pos #[65]).any (·.1)=false:=by rfl):PN3 X H0 (.Call (.Name "sorted" np) [a] [] pos) (srtL ta):=by
 refine⟨fun ρ Q Q' h q=>ha.mono ρ _ _ (fun cs ⟨c,h0,h1,ns,h2,h3,q⟩=>⟨c,h0,h1,ns,h2,h3,fun ms a b=>h _ _ (q ms a b)⟩) q,PE.imp (JX (x:="sorted") (zl0 hc) hg hm (show bootBuiltins "sorted" = some (.builtin "sorted") by rfl) ha.ok #[1] #[1] he hpl) fun σ H Q=>el5 fun G0 ρ G F q=>⟨G0,ρ,G,F,ha.mono ρ _ _ (fun cs hyp vs G1 H1 g1 w=>?_) q⟩⟩
 obtain⟨c,rfl,h1,ns,h2,h3,q⟩:=hyp;obtain⟨v,rfl,w1⟩:=vws1 w;obtain⟨l,us,rfl,hq,rs⟩:=Jf w1 g1.sub h1 h2;cases zbx rs.rd;exact⟨l,ns,rfl,hq,h3,fun ms p1 p2 p hp=>q ms p1 p2 p _ G1 H1 g1 hp (zgp ms)⟩
def ninT3:R3:=fun a b Q=>a.dat=true/\b.dat=true/\asT b.d fun xs=>SeqAt.shaped a.d=true/\SeqAt.shaped (.tuple xs)=true/\Q true (.bool (!xs.any fun y=>PyData.eqv y a.d))
theorem zni(hu:X.A.units+65<cLine):OpOk X (compareOp .NotIn) ninT3:=by
 refine⟨fun a b Q Q' h q=>?_,fun H0=>?_⟩
 . obtain⟨h1,h2,q⟩:=q
   obtain⟨xs,e,h3,h4,q⟩:=J9 q;refine⟨h1,h2,?_⟩;rw [e];exact⟨h3,h4,h _ _ q⟩
 intro pins s σ H x y v u Q I rx ry hyp;obtain⟨G,a,b,sm,wa,wb,ha,hb,q⟩:=hyp;have ra:=wa.rd sm ha;have rb:=wb.rd sm hb;obtain⟨xs,e,s1,s2,q⟩:=J9 q;rw [e] at rb;obtain⟨as,r1⟩:=ra.reads I rx;obtain⟨bs,r2⟩:=rb.reads I ry;exact SeqAt.notIn_tuple_reads r2 r1 (Wav s2) (Wav s1) (room_in_shaped s1 hu) ⟨.bl _,H,I,rfl,q _ G H (Gr.refl sm) #[61]⟩
def zas(i:Nat)(ta tb:TE3):TE3:=fun ρ Q=>∃ ds,ρ[i]?=some (some (.fd ds))/\ta ρ fun ka=>tb ρ fun kb=>asI ka fun m=>asI kb fun n=>Q (.sh true (.bool (!(getT ds (kk m n)).isSome)))
theorem zmy{ta tb:TE3}{np tp:Pos}{k1}(hu:X.A.units+1<cLine)(hN:X.N[i]?=some x)(hv:Vis X.env.scope x)(ha:PE3 X H0 a ta)(hb:PE3 X H0 b tb)(hm:behindInMarks .NotIn #[36]=false:=by rfl)(hd:#[21]:=by decide)(hcd:#[27]:=by decide)
 (hs1:starEach [a,b] X.env=#[42]::starEach [b] X.env:=by rfl) (hs2:starEach [b] X.env=#[41]::starEach [] X.env:=by rfl) :
 PE3 X H0 (.Compare (.Tuple [a,b] k1 tp) [.NotIn] [.Name x np] pos) (zas i ta tb):=by
 refine⟨fun ρ Q Q' h q=>?_,PE.imp (zmD (zfX hu (zcK (jn ha.ok (jn hb.ok jE hs2) hs1)) (jC hN hv hd hcd)) hm) fun σ H Q=>el5 fun G0 ρ G F q=>?_⟩
 . obtain⟨ds,hi,q⟩:=q
   refine⟨ds,hi,ha.mono ρ _ _ (fun ka q=>hb.mono ρ _ _ (fun kb q1=>?_) q) q⟩
   obtain⟨m,rfl,q2⟩:=jy q1;obtain⟨n,rfl,q3⟩:=jy q2;exact h _ q3
 obtain⟨ds,hi,q⟩:=q;refine⟨G0,ρ,G,F,ha.mono ρ _ _ (fun ka q2 v2 G2 H2 g2 w2=>?_) q⟩
 refine⟨G0,ρ,G2,F.gr g2,hb.mono ρ _ _ (fun kb q3 v3 G3 H3 g3 w3=>?_) q2⟩
 obtain⟨m,rfl,q⟩:=jy q3;obtain⟨n,rfl,q⟩:=jy q;cases zB (zn w2).rd;cases zB (zn w3).rd;refine⟨show 2<=sizeLine by decide,fun p hp=>?_⟩
 have g4:=Gr.apart (o:=.tup [.int m,.int n]) g3.sub hp;have F3:=((F.gr g2).gr g3).gr g4;obtain⟨l,o,kvs,h1,h2,h3,_⟩:=zgR F3 hi;have g:DGet (upd H3 p (.tup [.int m,.int n])) l (.ref p) (valV kvs (kk m n)):=.inr ⟨kvs,kk m n,p,.inr ⟨o,F3.sub.s _ _ h2⟩,rfl,zt,rfl⟩;refine⟨.ref l,h1,l,_,rfl,g,?_⟩;rw [h3.some];exact q _ G3 _ ((g2.trans g3).trans g4) (.sh #[61])
end
variable[LamW]
def za8(K:Ybf)(H0:Hp)(i:Nat)(J:List Nat)(t:Env3->D->TS3):TS:=fun B σ H=>∃ G0 A ρ1 σ1 G1 H1 v d ρ G,(Fr3 K H0 G0 ρ1 σ1 G1 H1/\Fr3 K H0 G0 ρ σ G H/\Gr G1 H1 G H/\σ[i]?=some (some v)/\RdN K H1 G v d/\(∀ k,k≠i->k∉J->σ[k]? = σ1[k]?)/\σ.length = σ1.length)/\t ρ1 d A ρ/\LD K H0 G0 A B
section
variable{X:Cx}{H0:Hp}{e:Expr}{pos pos':Pos}{x:Str}{i j:Nat}{J:List Nat}{l:List Stmt}{u:Env3->D->TS3}{st:Stmt}
def zd1(i:Nat)(tr:TR3)(u:Env3->D->TS3):TS3:=fun A ρ=>i < ρ.length/\tr ρ fun d=>u ρ d A (ρ.set i (some (.sh true d)))
theorem zgT{tr:TR3}(hN:X.N.Nodup)(hi:X.N[i]?=some x)(hx:#[60])(he:PR3 X H0 e tr)(hl:PSs X l (za8 X.K H0 i J u))
 (hs:swapsWith e (some (.Name x pos')) pos.line X.env=pure false:=by rfl) (hf:#[20]:=by first|exact .inl rfl|exact .inr rfl|assumption) :
 PSs3 X H0 (.Assign [.Name x pos'] e pos::l) (zd1 i tr u):=by
 refine PSs.imp (za1 (JU hN hi hx he.ok hs hf) hl) fun B σ H hyp=>?_
 obtain⟨G0,A,ρ,G,F,⟨hil,q⟩,L⟩:=hyp;refine⟨G0,ρ,G,F,he.mono ρ _ _ (fun d qd v G1 H1 G2 H2 g1 g2 r=>?_) q⟩
 have F1:=F.gr g1;have F2:=(F1.gr g2).set (i:=i) (f:=true) (v:=v) (d:=d) ⟨zcg r,fun _=>jM (Same.refl _) (fun _ _ _ z=>F1.keep.free z) r⟩
 have hlen:i < σ.length:=by rw [<-F.len];exact hil
 exact⟨G0,A,ρ,σ,G1,H1,v,d,_,G2,⟨F1,F2,g2,by rw [Yas hlen],r,fun k hk _=>by rw [Yac (WbM hk)],YaN⟩,qd,L⟩
def ifT(tt:TT3)(tb:TS3)(u:Env3->D->TS3):Env3->D->TS3:=fun ρ1 d A ρ=>tt ρ fun k=>if k=true then tb { A with nx:=fun _=>False } ρ else u ρ1 d A ρ
theorem r_if{tt:TT3}{tb:TS3}{c:Expr}{xs:List Stmt}(hc:PT3 X H0 c tt)(hb:PSs3 X H0 xs tb)(hl:PSs X l (za8 X.K H0 i J u)):PSs X (.If c xs [] pos::l) (za8 X.K H0 i J (ifT tt tb u)):=by
 refine PSs.imp (za1 (zfD hc.ok hb zfV) hl) fun B σ H hyp=>?_
 obtain⟨G0,A,ρ1,σ1,G1,H1,v,d,ρ,G,⟨F1,F,g,hv,r,hσ,hl⟩,q,L⟩:=hyp;refine⟨G0,ρ,G,F,hc.mono _ _ _ (fun k qk G3 H3 g3=>?_) q⟩
 cases k with
 | true=>exact⟨G0,{ A with nx:=fun _=>False },_,G3,F.gr g3,qk,⟨fun _ _ _ _ _ z=>z.elim,L.rt,L.bk,L.ct,L.rm⟩⟩
 | false=>exact⟨G0,A,ρ1,σ1,G1,H1,v,d,ρ,G3,⟨F1,F.gr g3,g.trans g3,hv,jM g3.g (fun _ _ _ z=>z) r,hσ,hl⟩,qk,L⟩
def drops(J:List Nat)(ρ : Env3):Env3:=J.foldl (fun ρ j=>ρ.set j none) ρ
theorem Fr3.drops{K:Ybf}{G0:Hp}{σ : L2.St}{G H:Hp}:∀ (J:List Nat) {ρ : Env3},Fr3 K H0 G0 ρ σ G H->Fr3 K H0 G0 (L3.drops J ρ) σ G H
 | [],_,F=>F
 | _::r,_,F=>Fr3.drops r (F.forget _)
variable{w:Env3->TS3}{jr:Nat}{y:Str}
theorem zlS{α : Type}(a b:α)(r:List α):atI (a::b::r) 1=some b:=by
 unfold atI ixN
 simp
 rw [if_pos #[0]];rfl
theorem zmO{tr:TR3}{u:Env3->D->TS3}{A:Ends3}{ρ : Env3}(hi:i < ρ.length)(h:∀ N:D->Prop,(∀ d,u ρ d A (ρ.set i (some (.sh true d)))->N d)->tr ρ N):zd1 i tr u A ρ:=⟨hi,h _ fun _ z=>z⟩
theorem zdb{tt:TT3}{tb:TS3}{u:Env3->D->TS3}{ρ1 ρ : Env3}{d:D}{A:Ends3}(h:∀ Y N:Prop,(tb { A with nx:=fun _=>False } ρ->Y)->(u ρ1 d A ρ->N)->tt ρ fun k=>if k=true then Y else N):ifT tt tb u ρ1 d A ρ:=h _ _ id id
end
end L3
namespace SetP
open PySem PySem.SetTable
def Rise(xs:List Nat):Prop:=xs.Pairwise (· < ·)
theorem Rise.get{xs:Array Nat}(h:Rise xs.toList){i j:Nat}(hij:i<j)(hj:j<xs.size)(d:Nat):xs.getD i d<xs.getD j d:=by
 have:=Wah.mp h i j (by simpa using Wbz hij hj) (by simpa using hj) hij
 simpa [Yaj,Wbz hij hj,hj] using this
theorem zkq{xs:Array Nat}{j:Nat}(h:Rise xs.toList):∀ fuel lo hi,lo<=hi->hi<=xs.size->hi - lo<=fuel->(∀ i,i<lo->xs.getD i j<j)->(∀ i,hi<=i->i<xs.size->j<=xs.getD i j)->
 below.go xs j fuel lo hi<=xs.size/\(∀ i,i<below.go xs j fuel lo hi->xs.getD i j<j)/\∀ i,below.go xs j fuel lo hi<=i->i<xs.size->j<=xs.getD i j:=by
 intro fuel
 induction fuel with
 | zero=>
  intro lo hi h1 h2 h3 h4 h5;have:lo=hi:=#[0]
  subst this;unfold below.go;exact⟨h2,h4,h5⟩
 | succ n ih=>
  intro lo hi h1 h2 h3 h4 h5;unfold below.go
  by_cases hl:lo<hi
  . rw [if_pos hl]
    dsimp only
    by_cases hm:xs.getD ((lo+hi)/2) j<j
    . rw [if_pos hm]
      refine ih _ _ #[0] h2 #[0] (fun i hi'=>?_) h5
      rcases WbA i ((lo+hi)/2) with z|z
      . have:=h.get z #[0] j
        omega
      . have:i=(lo+hi)/2:=#[0]
        rw [this];exact hm
    . rw [if_neg hm]
      refine ih _ _ #[0] #[0] #[0] h4 fun i hi' hs=>?_
      rcases WbA ((lo+hi)/2) i with z|z
      . have:=h.get z hs j
        omega
      . have:i=(lo+hi)/2:=#[0]
        rw [this];omega
  . rw [if_neg hl]
    have:lo=hi:=#[0]
    subst this;exact⟨h2,h4,h5⟩
theorem zbm{xs:Array Nat}(j:Nat)(h:Rise xs.toList):below xs j<=xs.size/\(∀ i,i<below xs j->xs.getD i j<j)/\∀ i,below xs j<=i->i<xs.size->j<=xs.getD i j:=
 zkq h _ _ _ (WbF _) (YaY _) (YaY _) (fun i hi=>absurd hi (Wbe _)) fun i hi hs=>absurd hs (WbK.mpr hi)
theorem zgd{xs:Array Nat}{j:Nat}(h:Rise xs.toList):xs[below xs j]?=some j↔j∈xs.toList:=by
 obtain⟨h1,h2,h3⟩:=zbm j h;refine⟨fun e=>?_,fun m=>?_⟩
 . obtain⟨hb,e⟩:=Array.getElem?_eq_some_iff.mp e
   rw [<-e];exact Array.getElem_mem_toList hb
 . obtain⟨i,hi,e⟩:=Yam m
   have hi':i<xs.size:=by simpa using hi
   have eg:xs.getD i j=j:=by simpa [Yaj,hi'] using e
   have hle:below xs j<=i:=by
    rcases WbA i (below xs j) with z|z
    . have:=h2 i z;omega
    . exact z
   rcases WbA (below xs j) i with z|z
   . have a:=h3 _ (YaY _) #[0]
     have b:=h.get z hi' j
     omega
   . have:below xs j=i:=#[0]
     rw [this,Wai hi']
     simpa using e
theorem zlh{xs:Array Nat}{j:Nat}(h:Rise xs.toList)(hn:j∉xs.toList):Rise (insertAt xs (below xs j) j).toList:=by
 obtain⟨h1,h2,h3⟩:=zbm j h;rw [SetTable.toList_insertAt];have hg:∀ i,i<xs.size->xs.getD i j∈xs.toList/\xs.toList.getD i j=xs.getD i j:=fun i hi=>by
  simp [Yaj,hi,YaP]
 have ht:∀ x∈xs.toList.take (below xs j),x<j:=fun x hx=>by
  obtain⟨i,hi,e⟩:=Yam hx;rw [Wa2] at hi;have:=h2 i #[0]
  have hs:i<xs.size:=by
   have:xs.toList.length=xs.size:=by simp
   omega
  rw [<-e,List.getElem_take]
  simpa [Yaj,hs] using this
 have hd:∀ x∈xs.toList.drop (below xs j),j<x:=fun x hx=>by
  have hm:=List.mem_of_mem_drop hx;obtain⟨i,hi,e⟩:=Yam hx;rw [List.length_drop] at hi;have hs:below xs j+i<xs.size:=by
   have:xs.toList.length=xs.size:=by simp
   omega
  have:=h3 _ (Nat.le_add_right _ i) hs;rw [List.getElem_drop] at e;have e2:xs.getD (below xs j+i) j=x:=by simpa [Yaj,hs] using e
  have:x≠j:=fun z=>hn (z ▸ hm)
  omega
 unfold Rise;refine List.pairwise_append.mpr ⟨h.sublist (List.take_sublist _ _),YaC.mpr ⟨hd,h.sublist (List.drop_sublist _ _)⟩,fun a ha b hb=>?_⟩
 have h4:=ht a ha
 rcases Wbm.mp hb with z|z
 . rw [z];exact h4
 . have:=hd b z;omega
def nx(m x:Nat):Nat:=(x*5+1)%m
def it(m:Nat):Nat->Nat->Nat
 | 0,x=>x
 | n+1,x=>it m n (nx m x)
theorem zaR(m:Nat):∀ a b x,it m (a+b) x=it m b (it m a x)
 | 0,b,x=>by rw [Nat.zero_add];rfl
 | a + 1, b, x => by
  rw [show a+1+b=(a+b)+1 by omega]
  exact zaR m a b (nx m x)
theorem zmP{m:Nat}(h0:it m m 0=0)(hc:∀ e,e<m->∃ n,n<m/\it m n 0=e){i e:Nat}(hi:i<m)(he:e<m):∃ n,n<m/\it m n i=e:=by
 obtain⟨a,ha,ea⟩:=hc i hi;obtain⟨b,hb,eb⟩:=hc e he
 rcases WbA b a with z|z
 . refine⟨m - a+b,#[0],?_⟩
   rw [<-ea,<-zaR,show a+(m - a+b)=m+b by omega,zaR,h0];exact eb
 . refine⟨b - a,#[0],?_⟩
   rw [<-ea,<-zaR,show a+(b - a)=b by omega];exact eb
def Sz(m:Nat):Prop:=m=8\/m=32\/m=128
def orb(m:Nat):Nat->Nat->List Nat
 | 0,_=>[]
 | n+1,x=>x::orb m n (nx m x)
theorem zes{m:Nat}:∀ {k x e:Nat},e∈orb m k x->∃ n,n<k/\it m n x=e
 | 0,_,_,h=>by cases h
 | k + 1, x, e, h => by
  rcases Wbm.mp h with z|z
  . exact⟨0,#[0],z.symm⟩
  . obtain⟨n,hn,q⟩:=zes z
    exact⟨n+1,#[0],q⟩
theorem zhq{m:Nat}(h:Sz m){i e:Nat}(hi:i<m)(he:e<m):∃ n,n<m/\it m n i=e:=by
 have key:it m m 0=0/\(List.range m).all (fun e=>(orb m m 0).contains e)=true:=by
  rcases h with rfl|rfl|rfl<;>exact⟨#[3],#[3]⟩
 refine zmP key.1 (fun e he=>?_) hi he
 have:=Wa3.mp key.2 e (Yba.mpr he);exact zes (List.contains_iff_mem.mp this)
def lp(m:Nat):Nat->Nat×Nat->Nat×Nat
 | 0,x=>x
 | n+1,x=>lp m n ((x.1*5+1+x.2/32)%m,x.2/32)
theorem zeQ(m:Nat):∀ a b x,lp m (a+b) x=lp m b (lp m a x)
 | 0,b,x=>by rw [Nat.zero_add];rfl
 | a + 1, b, x => by
  rw [show a+1+b=(a+b)+1 by omega]
  exact zeQ m a b _
theorem zfN(m:Nat):∀ n x,(lp m n x).2=x.2/32 ^ n
 | 0,x=>by simp [lp]
 | n + 1, x => by
  show(lp m n _).2=_
  rw [zfN m n];show x.2/32/32 ^ n=_;rw [Nat.div_div_eq_div_mul,Nat.pow_succ,Nat.mul_comm]
theorem zdD{m:Nat}(hm:0<m):∀ n x,x.1<m->(lp m n x).1<m
 | 0,x,h=>h
 | n+1,x,h=>zdD hm n _ (WbL _ hm)
theorem zge(m:Nat):∀ n x,lp m n (x,0)=(it m n x,0)
 | 0,x=>rfl
 | n + 1, x => by
  show lp m n ((x*5+1+0/32)%m,0/32)=_
  rw [Nat.zero_div,Nat.add_zero];exact zge m n _
theorem zfs{m:Nat}(h:Sz m){i e p:Nat}(hi:i<m)(he:e<m)(hp:p<2 ^ 64):∃ n,n<m+13/\(lp m n (i,p)).1=e:=by
 have hm:0<m:=#[0]
 have h2:(lp m 13 (i,p)).2=0:=by
  rw [zfN];exact Nat.div_eq_of_lt (Wbz hp #[1])
 have h1:=zdD hm 13 (i,p) hi;obtain⟨n,hn,e1⟩:=zhq h h1 he;refine⟨13+n,#[0],?_⟩
 rw [zeQ,show lp m 13 (i,p)=((lp m 13 (i,p)).1,0) from by rw [<-h2],zge]
 exact e1
structure TbI(t:SetTable)(n:Nat):Prop where
 sz:t.place.size=n
 du:t.dummies = #[]
 ri:Rise t.place.toList
 bd:∀ x∈t.place.toList,x<=t.mask
 ms:Sz (t.mask+1)
 fl:n<=t.mask
 pl:t.plain=true
theorem zmu{t:SetTable}{n:Nat}(h:TbI t n){j:Nat}:(t.slot j=.empty/\j∉t.place.toList)\/(∃ i,t.slot j=.live i/\i<n/\j∈t.place.toList):=by
 unfold SetTable.slot;dsimp only;have hd:has t.dummies j=false:=by rw [h.du];rfl
 by_cases e:t.place[below t.place j]?=some j
 . have hb:below t.place j<n:=by
    rw [<-h.sz];exact(Array.getElem?_eq_some_iff.mp e).1
   refine .inr ⟨below t.place j,?_,hb,(zgd h.ri).mp e⟩
   rw [if_pos (by rw [e];exact beq_self_eq_true _)]
 . refine .inl ⟨?_,fun m=>e ((zgd h.ri).mpr m)⟩
   rw [if_neg (by rw [beq_iff_eq];exact e),if_neg (by rw [hd];decide)]
theorem ze5:∀ {xs ys:List Nat},xs.Nodup->(∀ x∈xs,x∈ys)->xs.length<=ys.length
 | [],_,_,_=>WbF _
 | x :: r, ys, hn, h => by
  have hx:=h x YaV;have hc:=YaB.mp hn;have:=ze5 (ys:=ys.erase x) hc.2 fun y hy=>(List.mem_erase_of_ne (fun e:y=x=>hc.1 (e ▸ hy))).mpr (h y (YaT _ hy))
  rw [Wao hx] at this;have:0<ys.length:=YaO hx;rw [List.length_cons];omega
theorem zgW{t:SetTable}{n:Nat}(h:TbI t n):∃ e,e<t.mask+1/\e∉t.place.toList:=by
 refine Waj fun hn=>?_
 have:=ze5 (xs:=List.range (t.mask+1)) (ys:=t.place.toList) List.nodup_range fun x hx=>Waj fun z=>hn ⟨x,Yba.mp hx,z⟩
 rw [YaG,Array.length_toList,h.sz] at this;have:=h.fl
 omega
theorem zfa(m i:Nat):runEnd m i - i<=9:=by unfold runEnd;split<;>omega
theorem zeK{m i:Nat}(h:i<=m):i+(runEnd m i - i)<=m:=by unfold runEnd;split<;>omega
theorem zkv{t:SetTable}{n:Nat}(h:TbI t n){g:Nat->Int}{hs:Int}(hg:∀ i,i<n->g i≠hs){e:Nat}(he:e∉t.place.toList) :
 ∀ (fuel:Nat) (p:Probe) (k:Nat),p.dummy=none->p.j+p.more<=t.mask->(k=0->p.j=p.i)->(lp (t.mask+1) k (p.i,p.perturb)).1=e->(if k=0 then 1 else p.more+1+10*(k - 1)+1)<=fuel->∃ j,probe.go t g hs fuel p=some (.empty j none)/\j∉t.place.toList/\j<=t.mask:=by
 intro fuel
 induction fuel with
 | zero=>
  intro p k _ _ _ _ hf
  split at hf<;>omega
 | succ f ih=>
  intro p k hd hb hj hk hf;unfold probe.go
  rcases zmu h (j:=p.j) with ⟨e1,e2⟩|⟨i,e1,e2,e3⟩
  . rw [e1]
    exact⟨p.j,by rw [hd],e2,#[0]⟩
  . rw [e1]
    dsimp only;rw [if_neg (by rw [beq_iff_eq];exact hg i e2)]
    have k0:k≠0:=fun z=>by
     subst z;have hk:p.i=e:=hk;rw [hj rfl,hk] at e3;exact he e3
    rw [if_neg k0] at hf;unfold SetTable.advance
    by_cases hm:p.more > 0
    . rw [if_pos hm]
      refine ih _ k hd (show p.j+1+(p.more - 1)<=t.mask by omega) (fun z=>absurd z k0) hk ?_
      rw [if_neg k0];show p.more - 1+1+_+1<=f
      omega
    . rw [if_neg hm]
      obtain⟨k,rfl⟩:∃ k',k=k'+1:=⟨k - 1,#[0]⟩
      refine ih _ k hd (zeK (Nat.lt_succ_iff.mp (WbL _ (Nat.succ_pos _)))) (fun _=>rfl) hk ?_
      have:=zfa t.mask (leap t.mask p.i p.perturb).1;dsimp only at this ⊢
      split
      . omega
      . omega
theorem zee(h:Int):bits h<2 ^ 64:=by
 unfold bits;have h1:=Ybd h (show(0:Int)<2 ^ 64 by decide)
 have h0:=Ybc h (show(2 ^ 64:Int)≠0 by decide)
 omega
theorem zeS{t:SetTable}{n:Nat}(h:TbI t n){g:Nat->Int}{hs:Int}(hg:∀ i,i<n->g i≠hs):∃ j,t.probe g hs (t.probeStart hs)=some (.empty j none)/\j∉t.place.toList/\j<=t.mask:=by
 obtain⟨e,he,hn⟩:=zgW h;obtain⟨k,hk,e1⟩:=zfs h.ms (WbL (bits hs) (show 0<t.mask+1 by omega)) he (zee hs)
 unfold SetTable.probe;refine zkv h hg hn _ _ k rfl (zeK (Nat.lt_succ_iff.mp (WbL _ (Nat.succ_pos _)))) (fun _=>rfl) e1 ?_
 have:=zfa t.mask (bits hs%(t.mask+1));unfold turns probeStart;dsimp only
 split<;>omega
theorem zd3{t:SetTable}{n j:Nat}(h:TbI t n)(hj:j∉t.place.toList)(hm:j<=t.mask)(hn:n+1<=t.mask):TbI (t.put j).1 (n+1):=by
 have hp:=SetTable.insertAt_perm t.place (below t.place j) j;refine⟨?_,?_,zlh h.ri hj,fun x hx=>?_,h.ms,hn,h.pl⟩
 . have:=hp.length_eq
   rw [Array.length_toList,Array.length_toList,Array.size_push,h.sz] at this;exact this
 . show(if has t.dummies j=true then _ else t.dummies) = #[]
   rw [h.du];rfl
 . have:=hp.mem_iff.mp hx
   rw [WaQ] at this
   rcases Ya3.mp this with z|z
   . exact h.bd x z
   . rw [Ya6.mp z];exact hm
def lvF(o:Array (Option Nat))(j:Nat):Option (Nat×Nat):=(o.getD j none).map (j,·)
def lv(o:Array (Option Nat))(m:Nat):List (Nat×Nat):=(List.range m).filterMap (lvF o)
theorem zl6{o:Array (Option Nat)}{mask:Nat}(hz:o.size=mask+1){e:Nat}(hn:o.getD e none=none)(he:e<mask+1):∀ (fuel i p k:Nat),i<=mask->(lp (mask+1) k (i,p)).1=e->k<fuel->∃ j,layClean.free mask o fuel i p=some j/\j<mask+1/\o.getD j none=none:=by
 intro fuel
 induction fuel with
 | zero=>intro i p k _ _ hk;omega
 | succ f ih=>
  intro i p k hi hk hf;unfold layClean.free;cases hq:(List.range (runEnd mask i+1 - i)).find? fun k=>(o.getD (i+k) (some 0)).isNone with
  | some x=>
   dsimp only;have h1:=List.find?_some hq;have h2:(o.getD (i+x) (some 0)).isNone=true:=h1;have hb:i+x<o.size:=Waj fun z=>by
    rw [Yaj,Waw #[0]] at h2
    cases h2
   refine⟨i+x,rfl,#[0],?_⟩
   rw [Yaj,Wai hb] at h2 ⊢;exact Option.isNone_iff_eq_none.mp h2
  | none=>
   dsimp only;have h1:=List.find?_eq_none.mp hq 0 (Yba.mpr (by unfold runEnd;split<;>omega))
   rw [Nat.add_zero] at h1;cases k with
   | zero=>
    have hk:i=e:=hk;subst hk;refine absurd ?_ h1;rw [Yaj,Wai #[0]] at hn ⊢
    rw [show o[i]'_=none from hn];rfl
   | succ k=>
    exact ih _ _ k (Nat.lt_succ_iff.mp (WbL _ (Nat.succ_pos _))) hk #[0]
theorem zet{β : Type}{f f':Nat->Option β}:∀ {l:List Nat},(∀ x∈l,f' x=f x)->l.filterMap f'=l.filterMap f
 | [],_=>rfl
 | x :: r, h => by
  rw [List.filterMap_cons,List.filterMap_cons,h x YaV,zet fun y hy=>h y (YaT _ hy)]
theorem zf6{β : Type}{f f':Nat->Option β}{j:Nat}{b:β}(h1:f j=none)(h2:f' j=some b)(h3:∀ x,x≠j->f' x=f x):∀ l:List Nat,l.Nodup->j∈l->(l.filterMap f').Perm (b::l.filterMap f)
 | [],_,h=>by cases h
 | x :: r, hn, h => by
  have hc:=YaB.mp hn
  by_cases e:x=j
  . subst e
    have:r.filterMap f'=r.filterMap f:=zet fun y hy=>h3 y fun z=>hc.1 (z ▸ hy)
    rw [Wap h2,Waq h1,this]
  . have ih:=zf6 h1 h2 h3 r hc.2 ((Wbm.mp h).resolve_left fun z=>e z.symm)
    cases q:f x with
    | none=>rw [Waq (by rw [h3 x e];exact q),Waq q];exact ih
    | some y=>
     rw [Wap (by rw [h3 x e];exact q),Wap q]
     exact(List.Perm.cons y ih).trans (List.Perm.swap _ _ _)
theorem zeA{β : Type}{f:Nat->Option β}:∀ l:List Nat,(∀ x∈l,f x≠none)->(l.filterMap f).length=l.length
 | [],_=>rfl
 | x :: r, h => by
  obtain⟨y,e⟩:=Option.ne_none_iff_exists'.mp (h x YaV);rw [Wap e,List.length_cons,List.length_cons,zeA r fun y hy=>h y (YaT _ hy)]
structure OI(mask:Nat)(o:Array (Option Nat))(k:Nat):Prop where
 sz:o.size=mask+1
 pm:((lv o (mask+1)).map (·.2)).Perm (List.range k)
theorem OI.step{mask k:Nat}(hm:Sz (mask+1)){o:Array (Option Nat)}(h:OI mask o k)(hk:k<=mask)(x:Int):∃ j,layClean.free mask o (turns mask) (bits x%(mask+1)) (bits x)=some j/\OI mask (o.setIfInBounds j (some k)) (k+1):=by
 have hl:(lv o (mask+1)).length=k:=by
  have:=h.pm.length_eq;rwa [YaR,YaG] at this
 obtain⟨e,he,hn⟩:∃ e,e<mask+1/\o.getD e none=none:=Waj fun z=>by
  have:=zeA (f:=lvF o) (List.range (mask+1)) fun x hx q=>z ⟨x,Yba.mp hx,by
   unfold lvF at q;exact Option.map_eq_none_iff.mp q⟩
  unfold lv at hl;rw [hl,YaG] at this
  omega
 obtain⟨n,hn1,e1⟩:=zfs hm (WbL (bits x) (show 0<mask+1 by omega)) he (zee x)
 obtain⟨j,h1,h2,h3⟩:=zl6 h.sz hn he (turns mask) _ _ n (Nat.lt_succ_iff.mp (WbL _ (Nat.succ_pos _))) e1 (by unfold turns;omega)
 refine⟨j,h1,⟨by rw [Array.size_setIfInBounds];exact h.sz,?_⟩⟩
 have:=zf6 (f:=lvF o) (f':=lvF (o.setIfInBounds j (some k))) (j:=j) (b:=(j,k)) (by unfold lvF;rw [h3];rfl) (by
  unfold lvF;rw [Yaj,Array.getElem?_setIfInBounds_self_of_lt (by rw [h.sz];exact h2)];rfl) (fun y hy=>by
  unfold lvF;rw [Yaj,Array.getElem?_setIfInBounds_ne (fun z=>hy z.symm),<-Yaj]) (List.range (mask+1)) List.nodup_range (Yba.mpr h2)
 refine(this.map (·.2)).trans ?_
 rw [Ya1,List.range_succ (n:=k)];exact(List.Perm.cons k h.pm).trans (List.perm_append_singleton _ _).symm
def lstep(mask:Nat)(acc:Option (Array (Option Nat)×Nat))(h:Int):Option (Array (Option Nat)×Nat):=do
 let (owner,k) <-acc
 let j <-layClean.free mask owner (turns mask) (bits h%(mask+1)) (bits h)
 pure (owner.setIfInBounds j (some k),k+1)
theorem zff{mask:Nat}(hm:Sz (mask+1)):∀ (hs:List Int) (o:Array (Option Nat)) (k:Nat),OI mask o k->k+hs.length<=mask->∃ o',hs.foldl (lstep mask) (some (o,k))=some (o',k+hs.length)/\OI mask o' (k+hs.length)
 | [],o,k,h,_=>⟨o,rfl,h⟩
 | x :: r, o, k, h, hl => by
  rw [List.length_cons] at hl;obtain⟨j,h1,h2⟩:=h.step hm #[0] x
  obtain⟨o',h3,h4⟩:=zff hm r _ _ h2 #[0]
  refine⟨o',?_,by rw [List.length_cons,show k+(r.length+1)=k+1+r.length by omega];exact h4⟩
  rw [List.foldl_cons,List.length_cons,show k+(r.length+1)=k+1+r.length by omega,<-h3]
  congr 1
  show lstep mask (some (o,k)) x=_
  unfold lstep;show(layClean.free mask o (turns mask) (bits x%(mask+1)) (bits x)).bind _=_;rw [h1];rfl
theorem zkF{mask:Nat}(hm:Sz (mask+1))(finger moves:Nat)(led:Bool)(hs:Array Int)(hn:hs.size<=mask):∃ t order,SetTable.laid mask finger moves led true hs=some (t,order)/\TbI t hs.size/\t.led=led/\t.mask=mask/\order.toList.Perm (List.range hs.size):=by
 have h0:OI mask (Array.replicate (mask+1) none) 0:=by
  refine⟨Array.size_replicate,?_⟩
  have:lv (Array.replicate (mask+1) none) (mask+1)=[]:=List.filterMap_eq_nil_iff.mpr fun j hj=>by
   unfold lvF;rw [Yaj,Array.getElem?_replicate,if_pos (Yba.mp hj)];rfl
  rw [this];exact List.Perm.refl _
 obtain⟨o,h1,h2⟩:=zff hm hs.toList _ _ h0 (by rw [Array.length_toList];omega)
 rw [Array.length_toList,Nat.zero_add] at h1 h2;have hc:layClean mask hs=some o:=by
  unfold layClean;rw [<-Array.foldl_toList];show(hs.toList.foldl (lstep mask) (some (Array.replicate (mask+1) none,0))).map _=_;rw [h1];rfl
 have hl:(lv o (mask+1)).length=hs.size:=by
  have:=h2.pm.length_eq;rwa [YaR,YaG] at this
 have hf:∀ l:List Nat,((l.filterMap (lvF o)).map (·.1))=l.filter fun j=>(o.getD j none).isSome:=by
  intro l
  induction l with
  | nil=>rfl
  | cons x r ih=>
   cases q:o.getD x none with
   | none=>
    rw [Waq (by unfold lvF;rw [q];rfl),ih,List.filter_cons_of_neg (by rw [q];decide)]
   | some y=>
    rw [Wap (show lvF o x=some (x,y) by unfold lvF;rw [q];rfl),Ya1,ih,List.filter_cons_of_pos (by rw [q];rfl)]
 refine⟨_,_,by unfold SetTable.laid;rw [hc];rfl,⟨?_,rfl,?_,fun x hx=>?_,hm,hn,rfl⟩,rfl,rfl,?_⟩
 . show(List.toArray ((lv o (mask+1)).map (·.1))).size=_
   rw [YaZ,YaR,hl]
 . show Rise (List.toArray ((lv o (mask+1)).map (·.1))).toList
   unfold lv;rw [hf];exact List.Pairwise.sublist List.filter_sublist Wax
 . have hx:x∈(List.toArray ((lv o (mask+1)).map (·.1))).toList:=hx
   unfold lv at hx;rw [hf] at hx;have:=Yba.mp (Ya9.mp hx).1;show x<=mask
   omega
 . exact h2.pm
end SetP
namespace L2
open PySem PySem.Spec PyProof.Rows SetP
theorem zlO:entryFor table "set.__iter__" = some Builtin.«frozenset.__iter__»:=entryFor_alias (id':="frozenset.__iter__") (by kernel_rfl) rfl #[3] (by kernel_rfl)
theorem J7:Slot "set_iterator" "__next__" "set_iterator.__next__":=
 .of (owner:="set_iterator") (n:="__next__") (by rw [typeLookup_type,builtinLookup_eq_fast];kernel_rfl) #[3] #[3] #[3]
  (by first|exact .inl (by decide +kernel)|exact .inr #[3]) (by rw [isSubtype_type];kernel_rfl)
theorem zea:Slot "set_iterator" "__iter__" "set_iterator.__iter__":=
 .of (owner:="set_iterator") (n:="__iter__") (by rw [typeLookup_type,builtinLookup_eq_fast];kernel_rfl) #[3] #[3] #[3]
  (by first|exact .inl (by decide +kernel)|exact .inr #[3]) (by rw [isSubtype_type];kernel_rfl)
theorem zlM:entryFor table "set_iterator.__iter__" = some Builtin.«dict_keyiterator.__iter__»:=entryFor_alias (id':="dict_keyiterator.__iter__") (by kernel_rfl) rfl #[3] (by kernel_rfl)
theorem zfL:entryFor table "set_iterator.__next__" = some Builtin.«set_iterator.__next__»:=entryFor_of_tree (by kernel_rfl)
theorem zel:Manifest.owners.lookup (String.ofList ['r','o','t','a','r','e','t','i','_','t','e','s'].reverse)=some Manifest.sig_set_iterator:=by kernel_rfl
theorem zeH(a:Value):argsOk "set_iterator.__next__" ⟨[a],[]⟩:=by
 unfold argsOk;rw [signature?_of (id:="set_iterator.__next__") (n:=['_','_','t','x','e','n','_','_']) (o:=['r','o','t','a','r','e','t','i','_','t','e','s']) (by kernel_rfl) zel];kernel_rfl
theorem znq(a:Value):argsOk "set_iterator.__iter__" ⟨[a],[]⟩:=by
 unfold argsOk;rw [signature?_of (id:="set_iterator.__iter__") (n:=['_','_','r','e','t','i','_','_']) (o:=['r','o','t','a','r','e','t','i','_','t','e','s']) (by kernel_rfl) zel];kernel_rfl
def byT(w:World):Bool:=w.params.followText "set-order"
structure SG(w:World)(o:Obj)(es:Array #[57])(ep:Nat)(t:SetTable):Prop where
 ex:o.ExactSet
 da:o.data=.set es ep t
 ti:TbI t es.size
 le:t.led = !byT w
 f5:es.size*5<t.mask*3
theorem SG.fits{w:World}{o:Obj}{es:Array #[57]}{ep:Nat}{t:SetTable}(h:SG w o es ep t):t.fits es.size=true:=by
 unfold SetTable.fits SetTable.fill;rw [h.ti.sz,h.ti.du,beq_self_eq_true,Wbo,decide_eq_true_eq];exact h.ti.fl
def ordS(w:World)(a:Addr)(ep:Nat)(es:Array #[57]):Array #[57]:=if byT w=true then pickOrder (w.params.setOrder a ep) es else es
def jO(w:World)(t:SetTable)(i:Nat):Nat:=if byT w=true then 0 else if i=0 then 0 else t.place.getD (i - 1) 0+1
def jq(w:World)(a:Addr)(t:SetTable)(n ep i:Nat):Obj:={ cls:=.type "set_iterator", data:=.fields #[.int (jO w t i:Nat) 0,.int i 0,.ref a,.int n 0,.int ep 0] }
theorem zg5(w:World)(t:SetTable):jO w t 0=0:=by unfold jO;rw [if_pos rfl];split<;>rfl
theorem jv{α : Type}{M:Model}{A:Around}{Q:α->Shared->Prop}{E:#[11]}{s:Shared}{b:Bool}{x y:Sem α}(h:b=false)(q:wpAny M A y Q E s):wpAny M A (if b=true then x else y) Q E s:=by
 rw [h,if_neg #[1]];exact q
theorem JC{α : Type}{M:Model}{A:Around}{Q:α->Shared->Prop}{E:#[11]}{s:Shared}{b:Bool}{x y:Sem α}(h:b=true)(q:wpAny M A x Q E s):wpAny M A (if b=true then x else y) Q E s:=by
 rw [h,if_pos rfl];exact q
theorem SG.dr{w:World}{o:Obj}{es:Array #[57]}{ep:Nat}{t:SetTable}(h:SG w o es ep t):(!t.plain&&decide (es.size > 1))=false:=by rw [h.ti.pl];rfl
theorem ziO{P:Program}{w':World}{a:Addr}{o:Obj}{es:Array #[57]}{ep:Nat}{t:SetTable}(g:SG w' o es ep t) :
 MeetsIn P w' (Builtin.«frozenset.__iter__» { pos:=[Value.ref a] }) fun A R s=>s.heap.get? a=some o/\R (.ok (.ret #[38])) { s with heap:=s.heap.push (jq w' a t es.size ep 0) }:=by
 intro A R s h;obtain⟨hd,q⟩:=h;unfold Builtin.«frozenset.__iter__» Builtin.Frozenset.slot0 slotArgs;simp only [List.isEmpty_nil,Wbr,WaH,if_false,List.length_nil,bne_self_eq_false];unfold Builtin.Frozenset.addrOf Builtin.Frozenset.sizeOf setDrawn setsByText;refine wpAny_bind (wpAny_bind (wpAny_pure ?_));refine wpAny_pure ?_;refine wpAny_bind (wpAny_bind (wpAny_setEntries_of hd g.da g.fits (wpAny_pure ?_)))
 refine wpAny_bind (wpAny_bind (wpAny_setState_of hd g.da g.fits ?_))
 refine wpAny_bind (wpAny_bind (wpAny_askSetting (wpAny_pure (wpAny_pure ?_))))
 refine jv (show(!byT w'&&(!t.plain&&decide (es.size > 1)))=false by rw [g.dr,Bool.and_false]) ?_
 refine wpAny_bind (wpAny_pure ?_)
 refine wpAny_bind (wpAny_setEpoch_of hd g.da g.fits ?_)
 unfold newFields;refine wpAny_bind (wpAny_newObj_type ?_);refine wpAny_pure ?_;have e:jq w' a t es.size ep 0 = { cls:=.type "set_iterator", data:=.fields #[.int 0 0,.int 0 0,.ref a,.int es.size 0,.int ep 0] }:=by unfold jq;rw [zg5];rfl
 rw [e] at q;exact q
theorem zku{P:Program}{w:World}{A:Around}{E:#[11]}{s:Shared}{a:Addr}{o:Obj}{es:Array #[57]}{ep:Nat}{t:SetTable}{Q:#[11]}(g:SG w o es ep t)(hd:s.heap.get? a=some o)
 (q:Q #[38] { s with heap:=s.heap.push (jq w a t es.size ep 0) }):wpAny (model P w) A (pyIter (.ref a)) Q E s:=by
 have ht:s.TypeIs (.ref a) "set":=⟨o,hd,g.ex.1⟩;unfold pyIter;refine wpAny_bind (zba PySem.F.slot_set_iter ht ?_);dsimp only;refine wpAny_bind (wpAny_callSpecialIfBoundUnlessNone?_slot ht PySem.F.slot_set_iter ?_);refine call_meetsIn PySem.F.slot_set_iter ht zlO (PySem.F.args_set_iter_1 _) (ziO g) ⟨hd,?_⟩;dsimp only;refine wpAny_bind (zba J7 ⟨_,Yan _ rfl,rfl⟩ ?_)
 dsimp only;exact wpAny_pure q
theorem zi8{xs:Array Nat}(h:Rise xs.toList):SetTable.below xs 0=0:=by
 obtain⟨_,h2,_⟩:=zbm 0 h
 rcases Nat.eq_zero_or_pos (SetTable.below xs 0) with z|z
 . exact z
 . have:=h2 0 z;omega
theorem zg0{xs:Array Nat}(h:Rise xs.toList){i:Nat}(hi:i<xs.size):SetTable.below xs (xs.getD i 0+1)=i+1:=by
 obtain⟨h1,h2,h3⟩:=zbm (xs.getD i 0+1) h;have hg:∀ k d d',k<xs.size->xs.getD k d=xs.getD k d':=fun k d d' hk=>by simp [Yaj,hk]
 rcases Nat.lt_trichotomy (SetTable.below xs (xs.getD i 0+1)) (i+1) with z|z|z
 . have:=h3 i #[0] hi
   rw [hg i (xs.getD i 0+1) 0 hi] at this;omega
 . exact z
 . have h4:=h2 (i+1) z
   have hs:i+1<xs.size:=#[0]
   have h5:=h.get (show i<i+1 by omega) hs 0
   rw [hg (i+1) (xs.getD i 0+1) 0 hs] at h4
   omega
theorem zd9{P:Program}{w:World}{A:Around}{E:#[11]}{s:Shared}{a:Addr}{o:Obj}{es:Array #[57]}{ep i:Nat}{t:SetTable}{Q:Option (Value×Nat)->Shared->Prop}(g:SG w o es ep t)(hd:s.heap.get? a=some o)(hi:i<=es.size)
 (q:Q ((ordS w a ep es)[i]?.map fun e=>(e.2,jO w t (i+1))) s):wpAny (model P w) A (setNext a (jO w t i) i ep) Q E s:=by
 unfold setNext setsByText;refine wpAny_bind (wpAny_setState_of hd g.da g.fits ?_);dsimp only;refine wpAny_bind (wpAny_bind (wpAny_askSetting (wpAny_pure ?_)))
 by_cases hb:byT w=true
 . refine JC hb ?_
   rw [if_neg (by simp)]
   unfold ordS jO at q;rw [if_pos hb,if_pos hb] at q;unfold setWalk setsByText;refine wpAny_bind (wpAny_bind (wpAny_setState_of hd g.da g.fits ?_));dsimp only;refine wpAny_bind (wpAny_bind (wpAny_askSetting (wpAny_pure ?_)));refine JC hb ?_;refine wpAny_bind (wpAny_askSetting (wpAny_pure ?_));refine wpAny_pure ?_;unfold jO;rw [if_pos hb];exact q
 . have hb':byT w=false:=by simpa using hb
   refine jv hb' ?_
   refine jv g.dr ?_
   unfold ordS at q;rw [if_neg hb] at q;have hl:t.led=true:=by rw [g.le,hb'];rfl
   refine wpAny_bind ?_
   refine jv (show(!t.led && !es.isEmpty)=false by rw [hl];rfl) ?_
   refine wpAny_pure (wpAny_pure ?_)
   have hs:SetTable.below t.place (jO w t i)=i:=by
    unfold jO;rw [if_neg hb];cases i with
    | zero=>rw [if_pos rfl];exact zi8 g.ti.ri
    | succ k=>rw [if_neg #[0],Nat.add_sub_cancel];exact zg0 g.ti.ri (by rw [g.ti.sz];omega)
   rw [hs]
   rcases WbA i es.size with z|z
   . have z':i<t.place.size:=by rw [g.ti.sz];exact z
     rw [Wai z,Option.map_some] at q;rw [Wai z,Wai z'];have:jO w t (i+1)=t.place[i]+1:=by
      unfold jO;rw [if_neg hb,if_neg #[0],Nat.add_sub_cancel,Yaj,Wai z'];rfl
     rw [this] at q;exact q
   . rw [Waw z] at q ⊢
     exact q
theorem zko{P:Program}{w:World}{a it:Addr}{o:Obj}{es:Array #[57]}{ep i:Nat}{t:SetTable}(g:SG w o es ep t){e:Int×Value}(hi:i<es.size)(he:(ordS w a ep es)[i]?=some e) :
 MeetsIn P w (Builtin.«set_iterator.__next__» { pos:=[Value.ref it] }) fun A R s=>s.heap.get? a=some o/\s.heap.get? it=some (jq w a t es.size ep i)/\∀ h',h'.get? it=some (jq w a t es.size ep (i+1))->(∀ b o,b≠it->s.heap.get? b=some o->h'.get? b=some o)->R (.ok (.ret e.2)) { s with heap:=h' }:=by
 intro A R s h;obtain⟨hd,hk,q⟩:=h;unfold Builtin.«set_iterator.__next__» slotArgs;simp only [List.isEmpty_nil,Wbr,WaH,if_false,List.length_nil,bne_self_eq_false];refine wpAny_bind (wpAny_pure ?_);refine wpAny_bind (wpAny_fieldsOf hk rfl ?_);dsimp only;refine wpAny_bind (wpAny_setEntries_of hd g.da g.fits ?_);refine jv (bne_self_eq_false _) ?_;rw [Int.toNat_natCast,Int.toNat_natCast,Int.toNat_natCast]
 refine wpAny_bind (zd9 g hd (Wbw hi) ?_)
 rw [he];dsimp only [Option.map_some];refine wpAny_bind (wpAny_setField_rec hk (show 0<5 by decide) fun h1 k1 s1=>?_)
 refine wpAny_bind (wpAny_setField_rec k1 (show 1<5 by decide) fun h2 k2 s2=>?_)
 exact wpAny_pure (q _ k2 fun b o nb e=>(s2.2 b nb).trans ((s1.2 b nb).trans e))
theorem zj5{P:Program}{w:World}{a it:Addr}{o:Obj}{es:Array #[57]}{ep:Nat}{t:SetTable}(g:SG w o es ep t)(he:(ordS w a ep es)[es.size]?=none) :
 MeetsIn P w (Builtin.«set_iterator.__next__» { pos:=[Value.ref it] }) fun A R s=>A.handled=none/\s.heap.get? a=some o/\s.heap.get? it=some (jq w a t es.size ep es.size)/\∀ h' e,Heap.ExtBut it s.heap h'->({ s with heap:=h' }:Shared).TypeIs (.ref e) "StopIteration"->R (.error (.ref e)) { s with heap:=h' }:=by
 intro A R s h;obtain⟨hA,hd,hk,q⟩:=h;unfold Builtin.«set_iterator.__next__» slotArgs;simp only [List.isEmpty_nil,Wbr,WaH,if_false,List.length_nil,bne_self_eq_false];refine wpAny_bind (wpAny_pure ?_);refine wpAny_bind (wpAny_fieldsOf hk rfl ?_);dsimp only;refine wpAny_bind (wpAny_setEntries_of hd g.da g.fits ?_);refine jv (bne_self_eq_false _) ?_;rw [Int.toNat_natCast,Int.toNat_natCast,Int.toNat_natCast]
 refine wpAny_bind (zd9 g hd (YaY _) ?_)
 rw [he];dsimp only [Option.map_none];refine wpAny_bind (wpAny_setField_rec hk (show 2<5 by decide) fun h1 k1 s1=>?_)
 exact zjw hA fun h' e ke te=>q h' e (fun b o nb eb=>ke b o ((s1.2 b nb).trans eb)) te
theorem zgQ{α : Type}{l:List α}{i:Nat}(h:i<l.length):([l[i]]++l.eraseIdx i).Perm l:=by
 rw [List.eraseIdx_eq_take_drop_succ];have e:l=l.take i++l[i]::l.drop (i+1):=by rw [<-Wag h,List.take_append_drop]
 refine List.Perm.trans ?_ (List.Perm.of_eq e.symm)
 exact(List.perm_middle (l₁:=l.take i) (a:=l[i]) (l₂:=l.drop (i+1))).symm
theorem zdM{α : Type}(next:Nat->Nat):∀ (fuel k:Nat) (left:List α) (out:Array α),left.length=fuel->(pickOrder.go next fuel k left out).toList.Perm (out.toList++left)
 | 0, k, left, out, h => by
  have:left=[]:=List.length_eq_zero_iff.mp h;subst this;unfold pickOrder.go;rw [Yao]
 | fuel + 1, k, left, out, h => by
  unfold pickOrder.go;have hl:next k%left.length<left.length:=WbL _ #[0]
  rw [YaQ hl];dsimp only;have ih:=zdM next fuel (k+1) (left.eraseIdx (next k%left.length)) (out.push left[next k%left.length]) (by rw [List.length_eraseIdx_of_lt hl];omega)
  refine ih.trans ?_
  rw [WaQ,Yag];refine List.Perm.append_left _ ?_;exact zgQ hl
theorem zcQ(w:World)(a:Addr)(ep:Nat)(es:Array #[57]):(ordS w a ep es).toList.Perm es.toList:=by
 unfold ordS
 split
 . unfold pickOrder
   exact zdM _ _ _ _ _ (by rw [Array.length_toList])
 . exact List.Perm.refl _
theorem zbB(w:World)(a:Addr)(ep:Nat)(es:Array #[57]):(ordS w a ep es).size=es.size:=by
 have:=(zcQ w a ep es).length_eq;rwa [Array.length_toList,Array.length_toList] at this
theorem zhH{P:Program}{w:World}{A:Around}(hA:A.handled=none){a it:Addr}{o:Obj}{es:Array #[57]}{ep:Nat}{t:SetTable}(g:SG w o es ep t)(hne:a≠it) :
 Walks P w A it [it,a] [it] es.size (fun i v=>(ordS w a ep es)[i]?.map (·.2)=some v) (fun i h=>h.get? it=some (jq w a t es.size ep i)/\h.get? a=some o) where
 sub:=fun b hb=>by simp at hb;simp [hb]
 frame:=fun _ _ _ st hk=>⟨hk it (by simp) _ st.1,hk a (by simp) _ st.2⟩
 item:=fun i s Q E hi st hQ=>by
  have hi':i<(ordS w a ep es).size:=by rw [zbB];exact hi
  have ht:s.TypeIs (.ref it) "set_iterator":=⟨_,st.1,rfl⟩;unfold pyNext;refine wpAny_bind (wpAny_attempt ?_);refine zdf J7 ht ?_;refine call_meetsIn J7 ht zfL (zeH _) (zko g hi (Wai hi')) ⟨st.2,st.1,fun h' k sb=>?_⟩
  refine wpAny_pure (hQ _ h' s.toks (by rw [Wai hi'];rfl) ⟨k,sb a o hne st.2⟩ fun b o nb e=>sb b o (fun z=>nb (by simp [z])) e)
 done:=fun s Q E st hQ=>by
  have ht:s.TypeIs (.ref it) "set_iterator":=⟨_,st.1,rfl⟩;unfold pyNext;refine wpAny_bind (wpAny_attempt ?_);refine zdf J7 ht ?_;refine call_meetsIn J7 ht zfL (zeH _) (zj5 g (Waw (by rw [zbB];exact YaY _))) ⟨hA,st.2,st.1,fun h' e eb te=>?_⟩
  show wpAny _ _ (isInstance (.ref e) (.type "StopIteration") >>= _) _ _ _
  refine wpAny_bind (wpAny_isInstance te (b:=true) (by rfl) ?_)
  exact wpAny_pure (hQ h' s.toks fun b o nb e=>eb b o (fun z=>nb (by simp [z])) e)
 self:=fun i s Q E st h=>by
  have ht:s.TypeIs (.ref it) "set_iterator":=⟨_,st.1,rfl⟩;refine wpAny_pyIter_slot ht zea (wpAny_call_entry zea ht zlM ?_ (znq _));show wpAny _ _ (ret (.ref it)) _ _ s;exact wpAny_pure ⟨_,rfl,"set_iterator", _,ht,J7.lookup,h⟩
theorem zkN{P:Program}{w:World}{A:Around}{E:#[11]}{s:Shared}{a:Addr}{o:Obj}{Q:Bool->Shared->Prop}(hd:s.heap.get? a=some o)(hc:o.cls=.type "set")(q:Q false s):wpAny (model P w) A (Builtin.List.listLengthHint (.ref a)) Q E s:=by
 unfold Builtin.List.listLengthHint;refine wpAny_bind (zba PySem.F.slot_set_len ⟨o,hd,hc⟩ ?_)
 (generalize hid:("set.__len__" : String)=id0;(fail_if_success (clear hid id0));wp_delta;rw [show splitId id0=some ("set", "__len__") from by subst hid;decide +kernel];subst hid)
 refine wpAny_bind (wpAny_isInstance (b:=true) (T:="set") ⟨o,hd,hc⟩ (by rw [isSubtype_type];kernel_rfl) ?_)
 show wpAny _ A (typeOf (Value.ref a) >>= _) _ _ _
 refine wpAny_bind (wpAny_typeOf (T:="set") ⟨o,hd,hc⟩ ?_)
 exact wpAny_pure q
theorem znv{P:Program}{w:World}{A:Around}{E:#[11]}{s:Shared}{S:Addr}{Q:Unit->Shared->Prop}{c:Nat}(hS:s.heap.get? S=some { cls:=.type "list", data:=.seq #[] c })
 (q:∀ (h':Heap) (c':Nat),h'.get? S=some { cls:=.type "list", data:=.seq #[] c' }->(∀ b ob,b≠S->s.heap.get? b=some ob->h'.get? b=some ob)->Q () { s with heap:=h' }):wpAny (model P w) A (Builtin.List.listTouch (.ref S)) Q E s:=by
 show wpAny _ A (updateSeq S (·.push .none) >>= fun _=>updateSeq S (·.pop)) _ _ _
 refine wpAny_bind (wpAny_updateSeq hS rfl ?_)
 have hS2:=WaA (Obj.mapSeq (·.push Value.none)) hS rfl;refine wpAny_updateSeq hS2 rfl ?_;exact q _ _ (WaA (Obj.mapSeq (·.pop)) hS2 rfl) fun b ob hb e=>(Was _ _ (WbM hb)).trans ((Was _ _ (WbM hb)).trans e)
theorem zj9{P:Program}{w:World}{A:Around}{E:#[11]}{s:Shared}(hA:A.handled=none){a:Addr}{o:Obj}{es:Array #[57]}{ep:Nat}{t:SetTable}{Q:List Value->Shared->Prop}(g:SG w o es ep t)(hd:s.heap.get? a=some o)(hn:es.size<=sizeLine)
 (q:∀ s':Shared,Moved [] (fun a b=>b=a) s s'->s.heap.objs.size<s'.heap.objs.size->Q ((ordS w a ep es).toList.map (·.2)) s'):wpAny (model P w) A (collect (.ref a)) Q E s:=by
 have hlt:=YaX hd;have ht:s.TypeIs (.ref a) "set":=⟨o,hd,g.ex.1⟩;unfold collect;refine wpAny_bind (wpAny_runValue (codeAny_builtin PySem.F.entry_proto_collect ?_));rw [WaD PySem.F.plain_proto_collect _];show wpAny _ A.in1 (newList [] >>= fun l=>again (.builtin "list.__iadd__" ⟨[l,.ref a],[]⟩)) _ _ s
 refine wpAny_bind (wpAny_newObj_type ?_)
 refine wpAny_pure ⟨plainId_quiet PySem.F.plain_list_iadd _,codeAny_builtin PySem.F.entry_list_iadd ?_⟩
 rw [WaD PySem.F.plain_list_iadd _];have hd1:(s.heap.push { cls:=.type "list", data:=.seq ([]:List Value).toArray }).get? a=some o:=YaW _ hd;have h1:Builtin.List.listSameRef #[38] (.ref a)=false:=by simp only [Builtin.List.listSameRef];exact beq_eq_false_iff_ne.mpr (Wbx hlt)
 show wpAny _ A.in1 (Builtin.List.listExtendWith #[38] (.ref a) #[38]) _ _ _
 unfold Builtin.List.listExtendWith;refine wpAny_bind (wpAny_typeOf (T:="set") ⟨o,hd1,g.ex.1⟩ ?_);rw [if_neg (by rw [h1];decide)]
 refine wpAny_bind (zku g hd1 ?_)
 refine wpAny_bind (wpAny_holding ?_)
 have hd2:=YaW (jq w a t es.size ep 0) hd1;refine zkN (s:={ s with heap:=(s.heap.push { cls:=.type "list", data:=.seq ([]:List Value).toArray }).push (jq w a t es.size ep 0) }) hd2 g.ex.1 ?_
 show wpAny _ A.in1 (rule "list.extend.makes-room" >>= fun _=>Builtin.List.listTouch #[38] >>= fun _=>
  again (.builtin "list.extend.loop" ⟨[.ref s.heap.objs.size,.ref (s.heap.push { cls:=.type "list", data:=.seq ([]:List Value).toArray }).objs.size,.ref s.heap.objs.size],[]⟩)) _ _ _
 refine wpAny_bind (wpAny_rule ?_)
 have hsz:(s.heap.push { cls:=.type "list", data:=.seq ([]:List Value).toArray }).objs.size=s.heap.objs.size+1:=by simp [Heap.push]
 generalize hI:(s.heap.push { cls:=.type "list", data:=.seq ([]:List Value).toArray }).objs.size=I at hsz ⊢;have hS0:(s.heap.push { cls:=.type "list", data:=.seq ([]:List Value).toArray }).get? s.heap.objs.size=some { cls:=.type "list", data:=.seq ([]:List Value).toArray }:=Yan _ rfl;have hS1:=YaW (jq w a t es.size ep 0) hS0;have hI1:((s.heap.push { cls:=.type "list", data:=.seq ([]:List Value).toArray }).push (jq w a t es.size ep 0)).get? I=some (jq w a t es.size ep 0):=by rw [<-hI];exact Yan _ rfl
 generalize hh:(s.heap.push { cls:=.type "list", data:=.seq ([]:List Value).toArray }).push (jq w a t es.size ep 0)=hp at hd2 hS1 hI1 ⊢;have old:∀ b ob,s.heap.get? b=some ob->hp.get? b=some ob:=fun b ob e=>by rw [<-hh];exact YaW _ (YaW _ e)
 refine wpAny_bind (znv (s:={ s with heap:=hp }) hS1 fun h' c' hS3 oth=>?_)
 have W:=(zhH (P:=P) (A:=A.in1) (by simp [hA]) g (it:=I) (show a≠I by rw [hsz];exact Yaf (WaO hlt))).toS
 have n1:s.heap.objs.size≠I:=by rw [hsz];exact Yaf (Wa1 _)
 have n2:s.heap.objs.size≠a:=Wbx hlt;refine wpAny_pure ⟨plainId_quiet PySem.F.plain_extend_loop _,codeAny_extend_loopS W hn _ (by simp [n1,n2]) _ es.size 0 _ _ _ rfl (WbF _) ⟨oth I _ n1.symm hI1,oth a o n2.symm hd2⟩ hS3 (ItemsOf.nil _) fun s' acc' c' hm hS' hacc=>?_⟩
 show wpAny _ A (load s.heap.objs.size >>= _) _ _ s'
 refine wpAny_bind (wpAny_load hS' ?_)
 have ea:acc'.toList=(ordS w a ep es).toList.map (·.2):=by
  refine Wa4 (by rw [Array.length_toList,hacc.1,YaR,Array.length_toList,zbB]) fun j h1 h2=>?_
  have h3:=hacc.2 j acc'.toList[j] (by rw [<-Array.getElem?_toList,YaQ h1])
  rw [YaR,Array.length_toList] at h2;rw [Wai h2,Option.map_some] at h3;rw [YaI,Array.getElem_toList];exact(Wba h3).symm
 have hk:∀ b ob,s.heap.get? b=some ob->s'.heap.get? b=some ob:=fun b ob e=>by
  have hb:=YaX e;have n3:b≠s.heap.objs.size:=Yaf hb;have n4:b≠I:=by rw [hsz];exact Yaf (WaO hb)
  exact hm.heap b ob (by simp [n3,n4]) (oth b ob n3 (old b ob e))
 show wpAny _ A (pure acc'.toList) _ _ _
 rw [ea];exact wpAny_pure (q s' ⟨fun b ob _ e=>hk b ob e,hm.gens,hm.drawn,hm.os,hm.toks⟩ (YaX hS'))
end L2
namespace SetP
open PySem PySem.SetTable
theorem znm{mask n:Nat}(hm:Sz (mask+1))(hp:(n - 1)*5<mask*3)(hf:n*5>=mask*3)(hn:n<64):∃ m,sizeAbove (grown n) - 1=m/\Sz (m+1)/\n*5<m*3/\n<=m/\sizeAbove (grown n)<=128:=by
 have h1:mask=7\/mask=31\/mask=127:=by unfold Sz at hm;omega
 rcases h1 with rfl|rfl|rfl
 . obtain rfl:n=5:=#[0]
   exact⟨31,#[3],.inr #[70],#[1],#[1],#[3]⟩
 . obtain rfl:n=19:=#[0]
   exact⟨127,#[3],.inr (.inr rfl),#[1],#[1],#[3]⟩
 . omega
theorem Zr{t:SetTable}{n:Nat}(h:TbI t n):t.tooFull=decide (n*5>=t.mask*3):=by
 unfold SetTable.tooFull SetTable.fill;rw [h.sz,h.du];rfl
theorem zb1{t:SetTable}{n:Nat}(h:TbI t n):t.fits n=true:=by
 unfold SetTable.fits SetTable.fill;rw [h.sz,h.du,beq_self_eq_true,Wbo,decide_eq_true_eq];exact h.fl
theorem zfZ{t:SetTable}{es:Array #[57]}(h:TbI t es.size)(hp:(es.size - 1)*5<t.mask*3)(hf:es.size*5>=t.mask*3)(hn:es.size<64):∃ t' order,t.relaid (es.map (·.1)) (grown es.size)=some (t',order)/\TbI t' es.size/\t'.led=t.led/\es.size*5<t'.mask*3/\order.toList.Perm (List.range es.size)/\(order.filterMap (es[·]?)).toList.Perm es.toList/\sizeAbove (grown es.size)<=128:=by
 obtain⟨m,e1,e2,e3,e4,e5⟩:=znm h.ms hp hf hn;obtain⟨t',order,h1,h2,h3,h4,h5⟩:=zkF e2 t.finger (t.movedTo m) t.led (es.map (·.1)) (by rw [Array.size_map];exact e4)
 rw [Array.size_map] at h2 h5;refine⟨t',order,?_,h2,h3,by rw [h4];exact e3,h5,?_,e5⟩
 . unfold SetTable.relaid
   rw [e1,h.pl];exact h1
 . rw [Array.toList_filterMap]
   refine(h5.filterMap _).trans ?_
   rw [filterMap_getElem?_range]
theorem zl2{t:SetTable}{es:Array #[57]}(h:TbI t es.size)(hp:(es.size - 1)*5<t.mask*3)(hf:es.size*5>=t.mask*3)(hn:es.size<64):∃ es' t',relayAll t es (grown es.size)=(es',t',false)/\es'.toList.Perm es.toList/\TbI t' es'.size/\t'.led=t.led/\es'.size*5<t'.mask*3:=by
 obtain⟨t',order,h1,h2,h3,h4,h5,h6,_⟩:=zfZ h hp hf hn;have hz:(order.filterMap (es[·]?)).size=es.size:=by
  have:=h6.length_eq;rwa [Array.length_toList,Array.length_toList] at this
 refine⟨order.filterMap (es[·]?),t',?_,h6,by rw [hz];exact h2,h3,by rw [hz];exact h4⟩
 unfold relayAll;rw [h1];dsimp only;rw [if_pos];rw [hz,zb1 h2,Wbs];exact List.isPerm_iff.mpr h5
theorem zhd{t:SetTable}{es:Array #[57]}(h:TbI t es.size)(hn:es.size+1<=t.mask)(hs:Int)(x:Value):∃ es' t',layNew t es hs x=(es',t',false,false)/\es'.toList.Perm (es.toList++[(hs,x)])/\TbI t' es'.size/\t'.led=t.led/\t'.mask=t.mask:=by
 obtain⟨j,e1,e2,e3⟩:=zeS h (g:=fun _=>hs+1) (hs:=hs) (fun i _ z=>by omega)
 have hp:=layNew_perm t es hs x;have h1:=zd3 h e2 e3 hn;have hf:t.freeSlot hs=some (j,false):=by
  unfold SetTable.freeSlot;rw [e1];rfl
 have hz:(insertAt es (t.put j).2 (hs,x)).size=es.size+1:=by
  have:=(SetTable.insertAt_perm es (t.put j).2 (hs,x)).length_eq;rwa [Array.length_toList,Array.length_toList,Array.size_push] at this
 have he:layNew t es hs x=(insertAt es (t.put j).2 (hs,x),(t.put j).1,false,false):=by
  unfold layNew;rw [hf];dsimp only;have hfit:(t.put j).1.fits (insertAt es (t.put j).2 (hs,x)).size=true:=by rw [hz];exact zb1 h1
  unfold SetTable.orStandIn;rw [if_pos hfit,hfit];rfl
 rw [he] at hp;refine⟨_,_,he,?_,by rw [hz];exact h1,rfl,rfl⟩
 rw [WaQ] at hp;exact hp
end SetP
namespace L2
open PySem PySem.Spec PyProof.Rows SetP
theorem zfp{M:Model}{A:Around}{E:#[11]}{s:Shared}{a:Addr}{x:Value}{h:Int}{Q:ScanMet->Shared->Prop}(q:Q .absent s):∀ (l:List #[57]) (i:Nat),(∀ e∈l,e.1≠h)->wpAny M A (setScanFrom a x h true l i) Q E s
 | [],i,_=>by unfold setScanFrom;exact wpAny_pure q
 | (h', y) :: r, i, hn => by
  unfold setScanFrom;have h1:(h'==h)=false:=beq_eq_false_iff_ne.mpr (hn (h',y) YaV);refine jv h1 ?_;exact zfp q r (i+1) fun e he=>hn e (YaT _ he)
theorem SG.room{w:World}{o:Obj}{es:Array #[57]}{ep:Nat}{t:SetTable}(g:SG w o es ep t):es.size+1<=t.mask:=by
 have h1:=g.f5;have h2:t.mask=7\/t.mask=31\/t.mask=127:=by have:=g.ti.ms;unfold Sz at this;omega
 omega
theorem Zh{n:Nat}(h:n<64):n<=sizeLine:=by rw [sizeLine_eq];omega
theorem zbr{h:Heap}{a:Addr}{o:Obj}{es es':Array #[57]}{ep:Nat}{t t':SetTable}(ho:h.get? a=some o)(hd:o.data=.set es ep t):(h.update a (Obj.putSet es' t')).get? a=some { o with data:=.set es' (ep+1) t' }:=by
 have:=WaA (Obj.putSet es' t') ho (by rw [putSet_of es' t' hd];rfl)
 rw [putSet_of es' t' hd] at this;exact this
theorem add_int{P:Program}{w:World}{A:Around}{E:#[11]}{s:Shared}{a:Addr}{o:Obj}{es:Array #[57]}{ep:Nat}{t:SetTable}{i:Int}{tk:Tok}{h:Int}{Q:Bool->Shared->Prop}(g:SG w o es ep t)(hd:s.heap.get? a=some o)(hs:∀ e∈es.toList,e.2.scannable=true)(hne:∀ e∈es.toList,e.1≠h)(hn:es.size+1<64)
 (q:∀ h' o' es' ep' t',h'.get? a=some o'->Heap.SameBut a s.heap h'->SG w o' es' ep' t'->es'.toList.Perm (es.toList++[(h,.int i tk)])->Q true { s with heap:=h' }):wpAny (model P w) A (setAddHashed a (.int i tk) h) Q E s:=by
 unfold setAddHashed setAddHashedIn;refine wpAny_holding (wpAny_bind (wpAny_setState_of hd g.da g.fits ?_));dsimp only;have hb:byScan (.int i tk) es=true:=by
  unfold byScan;rw [Yak,Yak];refine⟨⟨rfl,decide_eq_true (by unfold scanBound;omega)⟩,?_⟩
  rw [<-Array.all_toList,Wa3];exact hs
 refine JC hb ?_
 unfold setAddByScan;refine wpAny_bind ?_;refine wpAny_bind (wpAny_rule ?_);refine wpAny_bind ?_;unfold setScan;dsimp only;refine zfp ?_ _ _ hne;dsimp only;obtain⟨es1,t1,e1,e2,e3,e4,e5⟩:=zhd g.ti g.room h (.int i tk);rw [e1];dsimp only;refine wpAny_bind (wpAny_pure ?_);have hz:es1.size=es.size+1:=by
  have:=e2.length_eq;rwa [Array.length_toList,YaS,Array.length_toList,List.length_singleton] at this
 refine JC e3.pl ?_
 refine wpAny_bind ?_
 rw [hashByValue_scannable 8 (x:=.int i tk) rfl];refine wpAny_pure ?_;rw [if_pos (show plainKind (Value.int i tk)=true from rfl)]
 refine wpAny_bind (wpAny_storeSet_of hd g.da ?_ (Zh #[0]))
 have k1:=zbr (es':=es1) (t':=t1) hd g.da;have s1:=WaF s.heap a (Obj.putSet es1 t1)
 by_cases hf:t1.tooFull=true
 . rw [Zr e3,decide_eq_true_eq] at hf
   have hp:(es1.size - 1)*5<t1.mask*3:=by rw [hz,e5];exact g.f5
   obtain⟨es2,t2,r1,r2,r3,r4,r5⟩:=zl2 e3 hp hf #[0]
   have hz2:es2.size=es1.size:=by
    have:=r2.length_eq;rwa [Array.length_toList,Array.length_toList] at this
   refine JC (show(!false&&t1.tooFull)=true by rw [Zr e3,decide_eq_true hf];rfl) ?_
   rw [r1];dsimp only;refine wpAny_bind (wpAny_pure ?_);refine wpAny_bind (wpAny_storeSet_of k1 rfl ?_ (Zh #[0]))
   refine wpAny_pure (wpAny_pure ?_)
   exact q _ _ es2 _ t2 (zbr k1 rfl) (s1.trans (WaF _ a _)) ⟨g.ex,rfl,r3,by rw [r4,e4];exact g.le,r5⟩ (r2.trans e2)
 . have hf':t1.tooFull=false:=by simpa using hf
   refine jv (show(!false&&t1.tooFull)=false by rw [hf'];rfl) ?_
   refine wpAny_pure (wpAny_pure ?_)
   rw [Zr e3,decide_eq_true_eq] at hf;exact q _ _ es1 _ t1 k1 s1 ⟨g.ex,rfl,e3,by rw [e4];exact g.le,#[0]⟩ e2
theorem zi2{P:Program}{w:World}{A:Around}{E:#[11]}{s:Shared}{ks:List Int}{a:Addr}{Q:Bool->Shared->Prop}(hk:IsTupleKey (intKind P w) s.heap ks a)(q:Q true s):wpAny (model P w) A (hashByValue 8 (.ref a)) Q E s:=by
 have hT:=hk.typeIs;obtain⟨o,items,n,ho,_,hd,hi⟩:=hk;have hall:∀ v∈items.toList,∃ k t,v=Value.int k t:=by
  intro v hv;generalize items.toList=l at hi hv
  induction hi with
  | nil=>cases hv
  | cons h1 _ ih=>
   rcases Wbm.mp hv with rfl|hv
   . obtain⟨t,e⟩:=Value.isInt_shape h1
     exact⟨_,t,e⟩
   . exact ih hv
 unfold hashByValue;refine wpAny_bind (wpAny_specialOf hT PySem.F.slot_tuple_hash.lookup ?_);dsimp only;refine wpAny_bind (wpAny_seqItems ho hd ?_);refine wpAny_bind ?_;show wpAny _ _ (forIn items _ _) _ _ s;rw [<-Array.forIn_toList];refine wpAny_forIn_list _ (fun rest r s'=>r.1=none/\s'=s/\∀ v∈rest,∃ k t,v=Value.int k t) _ ?_ ?_ _ _ ⟨rfl,rfl,hall⟩
 . rintro v rest r s' ⟨hr,rfl,hall⟩
   obtain⟨k,t,rfl⟩:=hall v YaV;rw [hashByValue_scannable 7 (x:=.int k t) rfl];refine wpAny_bind (wpAny_pure ?_);refine jv (show(!plainKind (Value.int k t))=false from rfl) ?_
   exact wpAny_pure ⟨rfl,rfl,fun u hu'=>hall u (YaT _ hu')⟩
 . rintro⟨r1,r2⟩ s' ⟨hr,rfl,_⟩
   simp only at hr
   subst hr;exact wpAny_pure q
theorem SG.odd{w:World}{o:Obj}{es:Array #[57]}{ep:Nat}{t:SetTable}(g:SG w o es ep t):t.gaveWay=false:=by
 have h2:t.mask=7\/t.mask=31\/t.mask=127:=by have:=g.ti.ms;unfold Sz at this;omega
 unfold SetTable.gaveWay
 rcases h2 with z|z|z<;>rw [z]<;>rfl
theorem zk9{P:Program}{w:World}{A:Around}{E:#[11]}{s:Shared}{a x:Addr}{o:Obj}{es:Array #[57]}{ep:Nat}{t:SetTable}{ks:List Int}{h:Int}{Q:Bool->Shared->Prop}(g:SG w o es ep t)(hd:s.heap.get? a=some o)(hne:∀ e∈es.toList,e.1≠h)(hn:es.size+1<64)(hk:IsTupleKey (intKind P w) s.heap ks x)
 (q:∀ h' o' es' ep' t',h'.get? a=some o'->Heap.SameBut a s.heap h'->SG w o' es' ep' t'->es'.toList.Perm (es.toList++[(h,.ref x)])->Q true { s with heap:=h' }):wpAny (model P w) A (setAddHashed a (.ref x) h) Q E s:=by
 unfold setAddHashed setAddHashedIn;refine wpAny_holding (wpAny_bind (wpAny_setState_of hd g.da g.fits ?_));dsimp only;refine jv (show byScan (.ref x) es=false from rfl) ?_
 obtain⟨j,e1,e2,e3⟩:=zeS g.ti (g:=fun i=>(es[i]?.map (·.1)).getD 0) (hs:=h) (fun i hi z=>by
  rw [Wai hi] at z;exact hne es[i] (Array.getElem_mem_toList hi) z)
 refine wpAny_bind ?_
 unfold setSearch setSearchFrom;refine wpAny_bind (wpAny_setState_of hd g.da g.fits ?_);dsimp only;refine jv g.odd ?_;generalize hg:t.probe _ h (Option.getD none (t.probeStart h))=m;have hm:m=some (.empty j none):=hg.symm.trans e1;subst hm;dsimp only;refine wpAny_pure ?_;dsimp only;refine wpAny_bind (wpAny_setState_of hd g.da g.fits ?_);dsimp only;have e4:=zd3 g.ti e2 e3 g.room;have hp:=SetTable.insertAt_perm es (t.put j).2 (h,Value.ref x)
 rw [WaQ] at hp;have hz:(SetTable.insertAt es (t.put j).2 (h,Value.ref x)).size=es.size+1:=by
  have:=hp.length_eq;rwa [Array.length_toList,YaS,Array.length_toList,List.length_singleton] at this
 refine JC e4.pl ?_
 refine wpAny_bind (zi2 hk ?_)
 rw [if_pos rfl];refine wpAny_bind (wpAny_storeSet_of hd g.da ?_ (Zh (by rw [hz];exact hn)))
 have k1:=zbr (es':=SetTable.insertAt es (t.put j).2 (h,Value.ref x)) (t':=(t.put j).1) hd g.da;have s1:=WaF s.heap a (Obj.putSet (SetTable.insertAt es (t.put j).2 (h,Value.ref x)) (t.put j).1);generalize SetTable.insertAt es (t.put j).2 (h,Value.ref x)=es1 at hp hz k1 s1 ⊢;rw [<-hz] at e4
 by_cases hf:(t.put j).1.tooFull=true
 . refine JC (show(!false&&(t.put j).1.tooFull)=true by rw [hf];rfl) ?_
   rw [Zr e4,decide_eq_true_eq] at hf;have hpp:(es1.size - 1)*5<(t.put j).1.mask*3:=by rw [hz];exact g.f5
   obtain⟨t2,order,r1,r2,r3,r4,r5,r6,r7⟩:=zfZ e4 hpp hf #[0]
   have hz2:(order.filterMap (es1[·]?)).size=es1.size:=by
    have:=r6.length_eq;rwa [Array.length_toList,Array.length_toList] at this
   unfold setRelay;refine wpAny_bind (wpAny_bind (wpAny_setState_of k1 rfl (zb1 e4) ?_));dsimp only;rw [<-hz,if_neg (show ¬SetTable.sizeAbove (SetTable.grown es1.size) > sizeLine from WbK.mpr (Ya5 r7 (by rw [sizeLine_eq];decide))),r1]
   refine wpAny_bind ?_
   refine jv (b:=(order.filterMap (es1[·]?)).size != es1.size) (by rw [hz2];exact bne_self_eq_false _) ?_
   refine wpAny_pure ?_
   dsimp only;refine wpAny_storeSet_of k1 rfl ?_ (Zh (by rw [hz2];omega))
   refine wpAny_pure ?_
   exact q _ _ (order.filterMap (es1[·]?)) _ t2 (zbr k1 rfl) (s1.trans (WaF _ a _)) ⟨g.ex,rfl,by rw [hz2];exact r2,by rw [r3];exact g.le,by rw [hz2];exact r4⟩ (r6.trans hp)
 . have hf':(t.put j).1.tooFull=false:=by simpa using hf
   refine jv (show(!false&&(t.put j).1.tooFull)=false by rw [hf'];rfl) ?_
   refine wpAny_pure ?_
   rw [Zr e4,decide_eq_true_eq] at hf;exact q _ _ es1 _ _ k1 s1 ⟨g.ex,rfl,e4,g.le,#[0]⟩ hp
def Jo(P:Program)(w:World)(m:Bool)(h:Heap)(bad:#[55])(v:Value)(hs:Int):Prop:=if m=true then ∃ i t,v=.int i t/\hs=hashInt i else ∃ x ks,v=.ref x/\x∉bad/\IsTupleKey (intKind P w) h ks x/\hs=tupleKeyHash (intKind P w) ks
theorem Jo.keep{P:Program}{w:World}{m:Bool}{h h':Heap}{bad:#[55]}{v:Value}{hs:Int}(x:Jo P w m h bad v hs)(k:∀ b o,b∉bad->h.get? b=some o->h'.get? b=some o):Jo P w m h' bad v hs:=by
 cases m with
 | true=>exact x
 | false=>
  obtain⟨y,ks,rfl,hb,⟨o,items,n,ho,r⟩,e⟩:=(show ∃ x ks,v=.ref x/\x∉bad/\IsTupleKey (intKind P w) h ks x/\hs=tupleKeyHash (intKind P w) ks from x)
  exact⟨y,ks,rfl,hb,⟨o,items,n,k _ _ hb ho,r⟩,e⟩
theorem zkx{P:Program}{w:World}{A:Around}{E:#[11]}{s:Shared}{a:Addr}{o:Obj}{es:Array #[57]}{ep:Nat}{t:SetTable}{m:Bool}{v:Value}{hs:Int}{bad:#[55]}{Q:Bool->Shared->Prop}(hu:A.units<cLine)(hk:Jo P w m s.heap bad v hs)(g:SG w o es ep t)(hd:s.heap.get? a=some o)(hsc:m=true->∀ e∈es.toList,e.2.scannable=true)(hne:∀ e∈es.toList,e.1≠hs)(hn:es.size+1<64)
 (q:∀ h' tk o' es' ep' t',s.toks<=tk->h'.get? a=some o'->Heap.SameBut a s.heap h'->SG w o' es' ep' t'->es'.toList.Perm (es.toList++[(hs,v)])->(m=true->v.scannable=true)->Q true { s with heap:=h',toks:=tk }):wpAny (model P w) A (setAdd a v) Q E s:=by
 unfold setAdd;refine wpAny_holding ?_;cases m with
 | true=>
  obtain⟨i,t',rfl,rfl⟩:=(show ∃ i t,v=.int i t/\hs=hashInt i from hk)
  refine wpAny_bind (wpAny_pyHash_int ?_)
  exact add_int (s:={ s with toks:=s.toks+1 }) g hd (hsc rfl) hne hn fun h' o' es' ep' t2 a1 a2 a3 a4=>q h' (s.toks+1) o' es' ep' t2 (Nat.le_succ _) a1 a2 a3 a4 fun _=>rfl
 | false=>
  obtain⟨x,ks,rfl,hb,hx,rfl⟩:=(show ∃ x ks,v=.ref x/\x∉bad/\IsTupleKey (intKind P w) s.heap ks x/\hs=tupleKeyHash (intKind P w) ks from hk)
  refine wpAny_bind (wpAny_pyHash_tuple hu hx ?_)
  exact zk9 (s:={ s with toks:=s.toks+(ks.length+1) }) g hd hne hn hx fun h' o' es' ep' t2 a1 a2 a3 a4=>q h' (s.toks+(ks.length+1)) o' es' ep' t2 (Nat.le_add_right _ _) a1 a2 a3 a4 fun z=>nomatch z
section
variable{prog:Program}{w:World}{A:Around}{R:Result->Shared->Prop}{I:Addr}{fp wr:#[55]}{G:Array GenState->Array GenState->Prop}{n:Nat}{P:Nat->Value->Prop}{St:Nat->Shared->Prop}
def HasI(w:World)(S:Addr)(m:Bool)(vs:#[28])(hs:List Int)(i:Nat)(h:Heap):Prop:=∃ o es ep t,h.get? S=some o/\SG w o es ep t/\es.toList.Perm ((hs.zip vs).take i)/\(m=true->∀ e∈es.toList,e.2.scannable=true)
theorem zm1(W:WalksS prog w A.in1 I fp wr G n P St)(hu:A.in1.units<cLine)(S:Addr)(hSf:S∉fp)(m:Bool)(vs:#[28])(hs:List Int)(hval:∀ i v,P i v->vs[i]?=some v)(hl:vs.length=n)(hl2:hs.length=n)(hnd:hs.Nodup)(h64:n<64) :
 ∀ (k i:Nat) (s:Shared),n - i=k->i<=n->St i s->(∀ (j:Nat) v h,vs[j]?=some v->hs[j]?=some h->Jo prog w m s.heap (S::wr) v h)->HasI w S m vs hs i s.heap->
  (∀ s',Moved (S::wr) G s s'->HasI w S m vs hs n s'.heap->R (.ok (.ret .none)) s')->
  codeAny #[56] A (.builtin "set.update.loop" ⟨[.ref S,.ref I],[]⟩) R s:=by
 have hSw:S∉wr:=fun h=>hSf (W.sub _ h)
 have hsub:∀ b∈wr,b∈S::wr:=fun b hb=>YaT _ hb
 have keepI:∀ {i:Nat} {h h':Heap},HasI w S m vs hs i h->(∀ o,h.get? S=some o->h'.get? S=some o)->HasI w S m vs hs i h':=fun⟨o,es,ep,t,ho,r⟩ k=>⟨o,es,ep,t,k _ ho,r⟩
 intro k
 induction k with
 | zero=>
  intro i s hk hi hst hit hS hR;have hin:i=n:=#[0]
  subst hin;refine codeAny_builtin PyProof.Rows.F.entry_set_update_loop ?_;rw [WaD Waa _];show wpAny _ A.in1 (pyNext (.ref I) >>= _) _ _ s;refine wpAny_bind (W.done s _ _ hst fun s' hm=>?_)
  show wpAny _ A.in1 (ret Value.none) _ _ s'
  exact wpAny_pure (hR s' (hm.mono hsub) (keepI hS fun o e=>hm.heap S _ hSw e))
 | succ k ih=>
  intro i s hk hi hst hit hS hR;have hlt:i<n:=#[0]
  refine codeAny_builtin PyProof.Rows.F.entry_set_update_loop ?_
  rw [WaD Waa _];show wpAny _ A.in1 (pyNext (.ref I) >>= _) _ _ s;refine wpAny_bind (W.item i s _ _ hlt hst fun v s' hP hst' hm=>?_)
  have hv:=hval i v hP;have hh:hs[i]?=some hs[i]:=YaQ #[0]
  have hS':=keepI hS fun o e=>hm.heap S _ hSw e
  have hit':∀ (j:Nat) v h,vs[j]?=some v->hs[j]?=some h->Jo prog w m s'.heap (S::wr) v h:=fun j v h a b=>(hit j v h a b).keep fun b o nb e=>hm.heap b o (fun z=>nb (hsub _ z)) e
  obtain⟨o,es,ep,t,ho,g,hp,hsc⟩:=hS';have hz:es.size=i:=by
   have:=hp.length_eq;rw [Array.length_toList,Wa2,Wbf] at this
   omega
  show wpAny _ A.in1 (holding [v] (setAdd S v) >>= _) _ _ s'
  refine wpAny_bind (wpAny_holding ?_)
  refine zkx hu (hit' i v _ hv hh) g ho hsc (fun e he z=>?_) #[0] fun h' tk o' es' ep' t' a0 a1 a2 a3 a4 a5=>?_
  . have:=hp.mem_iff.mp he
    obtain⟨j,hj,e1⟩:=Yam this;rw [Wa2,Wbf] at hj;rw [List.getElem_take,List.getElem_zip] at e1;have e2:hs[j]=hs[i]:=by rw [<-z,<-e1]
    have:=(Wa0 hnd).mp e2
    omega
  have key:(hs.zip vs).take (i+1)=(hs.zip vs).take i++[(hs[i],v)]:=by
   rw [List.take_succ,(Wak (z:=(hs[i],v))).mpr ⟨hh,hv⟩];rfl
  have hS2:HasI w S m vs hs (i+1) h':=⟨o',es',ep',t',a1,a3,by rw [key];exact a4.trans (hp.append_right _),fun z e he=>by
   rcases Ya3.mp (a4.mem_iff.mp he) with y|y
   . exact hsc z e y
   . rw [Ya6.mp y];exact a5 z⟩
  refine wpAny_pure ⟨plainId_quiet Waa _,ih (i+1) _ #[0] hlt (W.frame _ s' _ _ hst' a0 fun b hb o e=>?_) (fun j v h a b=>(hit' j v h a b).keep fun b o nb e=>?_) hS2 fun s'' hm'' hS''=>?_⟩
  . rw [a2.2 b (fun h:b=S=>hSf (by rw [<-h];exact hb))];exact e
  . exact(a2.2 b (fun z=>nb (by rw [z];exact YaV))).trans e
  . refine hR s'' (Moved.trans W.gtrans ((hm.mono hsub).then_heap a0 fun b o hb e=>?_) hm'') hS''
    exact(a2.2 b (fun z=>hb (by rw [z];exact YaV))).trans e
end
section
variable{prog:Program}{w:World}{A:Around}{E:#[11]}{s:Shared}
def set0(w:World):Obj:={ cls:=.type "set", dict:=none,data:=.set #[] 0 (.fresh 0 0 (!byT w)) }
theorem ziW(w:World):SG w (set0 w) #[] 0 (.fresh 0 0 (!byT w)):=⟨⟨rfl,rfl,rfl⟩,rfl,⟨rfl,rfl,List.Pairwise.nil,fun x hx=>(by cases hx),.inl rfl,(show 0<=7 by decide),rfl⟩,rfl,(show 0*5<7*3 by decide)⟩
theorem zl3(a:Value){Q₁ : Value->Shared->Prop}(h:Q₁ #[38] { s with heap:=s.heap.push (set0 w) }) :
 codeAny #[56] A (.call (.builtin "set.__new__") ⟨[.type "set", a],[]⟩) (wants Q₁ E) s:=by
 refine codeAny_of_tree ?_
 show wpAny _ A.in1 (do checkBuiltinCall "set.__new__" ⟨[.type "set", a],[]⟩;again (.builtin "set.__new__" ⟨[.type "set", a],[]⟩)) _ _ s
 refine wpAny_bind (wpAny_of_eq (PySem.F.newCall_set_1 a) (wpAny_pure ⟨plainId_quiet PySem.F.plain_set_new _,codeAny_builtin PySem.F.entry_set_new ?_⟩))
 rw [WaD PySem.F.plain_set_new _];unfold Builtin.«set.__new__» Builtin.Frozenset.newClass;have hsub:=sub_set_self;obtain⟨hp,g,d,tk,os⟩:=s;dsimp only
 wp_walk
 refine wpAny_askSetting (wpAny_pure ?_)
 dsimp only;simp only [newObj];refine wpAny_bind (wpAny_alloc (wpAny_pure ?_));exact wpAny_pure h
set_option maxHeartbeats 3200000 in
theorem zf0{l:Addr}{items:Array Value}{m:Bool}{hs:List Int}{Q:#[11]}
 (hh:A.handled=none) (hu:A.units+3<cLine) (hl:s.heap.IsList l items) (hi:∀ (j:Nat) v h,items.toList[j]?=some v->hs[j]?=some h->Jo prog w m s.heap [s.heap.objs.size,s.heap.objs.size+1] v h) (hlen:hs.length=items.size) (hnd:hs.Nodup) (h64:items.size<64)
 (h:∀ (h':Heap) (tk:Nat),HasI w s.heap.objs.size m items.toList hs items.size h'->(∀ b o,b<s.heap.objs.size->s.heap.get? b=some o->h'.get? b=some o)->Q #[38] { s with heap:=h',toks:=tk }) :
 wpAny #[56] A (call (.type "set") [.ref l]) Q E s:=by
 obtain⟨c,tl,hmro⟩:=WaI.mro;have hmade:=WaI.made;have hsub:=WaI.sub;refine wpAny_call (codeAny_of_tree ?_);show wpAny _ _ (callAny (.type "set") _) _ _ _;refine wpAny_pure ⟨Code.quiet_builtin _ #[3],codeAny_builtin PySem.F.entry_type_call ?_⟩
 rw [Around.under_plain (weight_type_call_type "set" [.ref l] []) rfl];have h1:=WaI.notType;have h2:=WaI.canCreate;have hct:=PySem.F.typeCall_set_1 (.ref l)
 repeat (any_goals (first|assumption|wp_step))
 refine codeAny_mono (zl3 (.ref l) (E:=E) (Q₁:=fun obj s₁=>obj=.ref s.heap.objs.size/\s₁ = { s with heap:=s.heap.push (set0 w) }) ⟨rfl,rfl⟩) fun r s₁ hr=>?_
 cases r with
 | error e=>exact hr
 | ok fl=>
  cases fl with
  | ret obj=>
   obtain⟨rfl,rfl⟩:=hr;have hS:(s.heap.push (set0 w)).get? s.heap.objs.size=some (set0 w):=Yan _ rfl;have hT:Shared.TypeIs { s with heap:=s.heap.push (set0 w) } #[38] "set":=⟨_,hS,rfl⟩
   have hli:=WaI.init.lookup;have hbi:=WaI.init.bind #[38]
   repeat (any_goals (first|assumption|wp_step))
   refine codeAny_mono (codeAny_call_builtin (R:=wants (fun r s₂=>r=.none/\∃ h' tk,s₂ = { s with heap:=h',toks:=tk }/\HasI w s.heap.objs.size m items.toList hs items.size h'/\
    (∀ b o,b<s.heap.objs.size->s.heap.get? b=some o->h'.get? b=some o)) E) WaI.init.plain PySem.F.entry_set_init (check_set_init_1 hT ?_)) fun r₂ s₂ hr₂=>?_
   . obtain⟨ol,hol,hcl,nl,hdl⟩:=hl
     obtain⟨ocls,odict,odata,oslots⟩:=ol;simp only at hcl hdl;subst hcl;subst hdl;have hol':(s.heap.push (set0 w)).get? l=some { cls:=.type "list", dict:=odict,data:=.seq items nl,slots:=oslots }:=YaW _ hol;have hsls:=PySem.F.sub_list_set;have hslf:=PySem.F.sub_list_frozenset;have hne:(Value.type "list" == Value.type "dict")=false:=#[1]
     have hl1:(s.heap.push (set0 w)).IsList l items:=⟨_,hol',rfl,nl,rfl⟩;unfold Builtin.«set.__init__» noKeywords Builtin.Frozenset.updateFrom;generalize hPI:pyIter=PI
     wp_walk
     subst hPI;refine wpAny_pyIter_list hl1 ?_;refine wpAny_bind (wpAny_runValue ?_);have hlS:l<s.heap.objs.size:=YaX hol;have hh3:A.in1.in1.in1.handled=none:=by simp [hh]
     have hsz:(s.heap.push (set0 w)).objs.size=s.heap.objs.size+1:=Wbj _ _;have hneI:l≠(s.heap.push (set0 w)).objs.size:=by
      rw [Wbj];exact Yaf (WaO hlS)
     have hSf:s.heap.objs.size∉[(s.heap.push (set0 w)).objs.size,l]:=by
      rw [Wbj];simp only [Wbm,Ya6,Wa5,or_false,not_or];exact⟨Yaf (Wa1 _),Wbx hlS⟩
     refine zm1 ((Walks.list hh3 _ l hneI items).toS) (show A.units+1+1+1<cLine by omega) s.heap.objs.size hSf m items.toList hs (fun i v hv=>by rw [Array.getElem?_toList];exact hv) (by simp) hlen hnd h64 (items.size - 0) 0 _ #[0] (WbF _)
      ⟨⟨_,Yan _ rfl,rfl,rfl⟩,(hl1.push _)⟩ ?hI0 ?hS0 ?hR
     case hI0=>
      intro j v h' a b;rw [hsz];exact(hi j v h' a b).keep fun b o nb e=>YaW _ (YaW _ e)
     case hS0=>exact⟨_,_,_,_,YaW _ hS,ziW w,(by rw [List.take_zero]),fun _ e he=>by cases he⟩
     case hR=>
      intro s' hm hS';obtain⟨h',g',d',tk',os'⟩:=s';have eg:g'=s.gens:=hm.gens;have ed:d'=s.drawn:=hm.drawn;have eo:os'=s.os:=hm.os;subst eg;subst ed;subst eo;show wpAny _ _ _ _ _ _;refine wpAny_pure ?_;show wpAny _ _ (ret Value.none) _ _ _;refine wpAny_pure ⟨rfl,h',tk',rfl,hS',fun b o hb e=>?_⟩
      have hb1:b≠s.heap.objs.size:=Yaf hb;have hb2:b≠(s.heap.push (set0 w)).objs.size:=by
       rw [Wbj];exact Yaf (WaO hb)
      exact hm.heap b o (by simp only [Wbm,Ya6,Wa5,or_false,not_or];exact⟨hb1,hb2⟩) (YaW _ (YaW _ e))
   . cases r₂ with
     | error e=>exact hr₂
     | ok fl₂=>
      cases fl₂ with
      | ret r=>
       obtain⟨rfl,h',tk,rfl,hS',hk'⟩:=hr₂
       repeat (any_goals (first|assumption|wp_step))
       exact h _ _ hS' hk'
      | _=>exact hr₂.elim
  | _=>exact hr.elim
end
end L2
namespace L3
open PySem PySem.W PyProof.Rows
def Ends(lt:Nat->Nat->Bool)(n:Nat){α : Type}(R:α->Prop):KasT α->Prop
 | .ret a=>R a
 | .ask i j k=>i<n/\j<n/\Ends lt n R (k (lt i j))
section
variable{lt:Nat->Nat->Bool}{n:Nat}
theorem Ends.bind{α β : Type}{R:β->Prop}{f:α->KasT β}:∀ {t:KasT α},Ends lt n (fun a=>Ends lt n R (f a)) t->Ends lt n R (t.bind f)
 | .ret _,h=>h
 | .ask _ _ k,h=>⟨h.1,h.2.1,Ends.bind (t:=k _) h.2.2⟩
theorem Ends.mono{α : Type}{R R':α->Prop}(hR:∀ a,R a->R' a):∀ {t:KasT α},Ends lt n R t->Ends lt n R' t
 | .ret a,h=>hR a h
 | .ask _ _ k,h=>⟨h.1,h.2.1,Ends.mono hR (t:=k _) h.2.2⟩
structure Ordr(lt:Nat->Nat->Bool)(n:Nat):Prop where
 tr:∀ i j k,lt i j=true->lt j k=true->lt i k=true
 as:∀ i j,lt i j=true->lt j i=false
 co:∀ i j,i<n->j<n->i≠j->lt i j=true\/lt j i=true
abbrev gp(p:Array Nat)(i:Nat):Nat:=p.getD i 0
def OkP(n:Nat)(p:Array Nat):Prop:=p.toList.Perm (List.range n)
theorem OkP.size{p:Array Nat}(h:OkP n p):p.size=n:=by have:=h.length_eq;simpa using this
theorem Je{p:Array Nat}{i:Nat}(hi:i<p.size):p[i]?=some (gp p i):=by
 simp [gp,Array.getD,hi]
theorem OkP.below{p:Array Nat}(h:OkP n p){i:Nat}(hi:i<n):gp p i<n:=by
 have hs:=h.size;have e:=Je (p:=p) (i:=i) #[0]
 have:gp p i∈p.toList:=by
  rw [Array.mem_toList_iff];exact Array.mem_of_getElem? e
 exact Yba.mp (h.mem_iff.mp this)
theorem OkP.inj{p:Array Nat}(h:OkP n p){i j:Nat}(hi:i<n)(hj:j<n)(e:gp p i=gp p j):i=j:=by
 have hs:=h.size;have nd:p.toList.Nodup:=h.nodup_iff.mpr List.nodup_range;have e1:=Je (p:=p) (i:=i) #[0]
 have e2:=Je (p:=p) (i:=j) #[0]
 rw [<-Array.getElem?_toList] at e1 e2;rw [e] at e1;have hi':i<p.toList.length:=by simpa [hs] using hi
 exact(List.getElem?_inj hi' nd).mp (e1.trans e2.symm)
theorem OkP.perm{p q:Array Nat}(h:OkP n p)(e:q.Perm p):OkP n q:=(Array.perm_iff_toList_perm.mp e).trans h
def SoP(lt:Nat->Nat->Bool)(p:Array Nat)(k:Nat):Prop:=∀ i j,i<j->j<k->lt (gp p i) (gp p j)=true
variable(O:Ordr lt n)
include O
theorem zcr{p:Array Nat}(h:OkP n p){i j:Nat}(hi:i<n)(hj:j<n)(ne:i≠j)(c:lt (gp p j) (gp p i)=false):lt (gp p i) (gp p j)=true:=by
 rcases O.co _ _ (h.below hi) (h.below hj) (fun e=>ne (h.inj hi hj e)) with q|q
 . exact q
 . rw [q] at c;cases c
theorem ziC{p:Array Nat}{k:Nat}(hk:1<=k)(h:SoP lt p k)(c:lt (gp p (k - 1)) (gp p k)=true):SoP lt p (k+1):=fun i j hij hj=>by
 by_cases e:j<k
 . exact h i j hij e
 . have e':j=k:=#[0]
   subst e'
   by_cases e2:i=j - 1
   . subst e2;exact c
   . exact O.tr _ _ _ (h i (j - 1) #[0] #[0]) c
theorem zbR{p:Array Nat}(h:OkP n p):∀ (f k:Nat),k+f=n->1<=k->SoP lt p k->Ends lt n (fun m=>k<=m/\m<=n/\SoP lt p m/\(m<n->lt (gp p m) (gp p (m - 1))=true)) (kas_asc p f k)
 | 0,k,e,_,s=>⟨YaY _,#[0],s,fun z=>by omega⟩
 | f + 1, k, e, k1, s => by
  refine⟨h.below #[0],h.below #[0],?_⟩
  cases c:lt (gp p k) (gp p (k - 1)) with
  | true=>exact⟨YaY _,#[0],s,fun _=>c⟩
  | false=>exact(zbR h f (k+1) #[0] #[0] (ziC O k1 s (zcr O h #[0] #[0] #[0] c))).mono fun m hm=>⟨#[0],hm.2⟩
theorem zgq{p:Array Nat}(h:OkP n p):∀ (f k:Nat),k+f=n->1<=k->(∀ i j,i<j->j<k->lt (gp p j) (gp p i)=true)->
 Ends lt n (fun r=>r.1=p/\r.2.2=0/\k<=r.2.1/\r.2.1<=n/\∀ i j,i<j->j<r.2.1->lt (gp p j) (gp p i)=true) (kas_desc f p k 0)
 | 0,k,e,_,s=>⟨rfl,rfl,YaY _,by show k<=n;omega,s⟩
 | f + 1, k, e, k1, s => by
  refine⟨h.below #[0],h.below #[0],?_⟩
  cases c:lt (gp p k) (gp p (k - 1)) with
  | true=>
   refine(zgq h f (k+1) #[0] #[0] fun i j hij hj=>?_).mono fun r hr=>⟨hr.1,hr.2.1,by have:=hr.2.2.1;omega,hr.2.2.2⟩
   by_cases e2:j<k
   . exact s i j hij e2
   . have e':j=k:=#[0]
     subst e'
     by_cases e3:i=j - 1
     . subst e3;exact c
     . exact O.tr _ _ _ c (s i (j - 1) #[0] #[0])
  | false=>
   refine⟨h.below #[0],h.below #[0],?_⟩
   have c2:=zcr O h (i:=k - 1) (j:=k) #[0] #[0] #[0] c
   have c3:lt (p.getD (k - 1) 0) (p.getD k 0)=true:=c2;rw [c3];exact⟨rfl,rfl,YaY _,by show k<=n;omega,s⟩
theorem zkV{p:Array Nat}(h:OkP n p){k:Nat}(hk:k<=n)(d:∀ i j,i<j->j<k->lt (gp p j) (gp p i)=true):SoP lt (kas_rev p 0 k) k:=fun i j hij hj=>by
 have hs:=h.size;have g:∀ x,x<k->gp (kas_rev p 0 k) x=gp p (k - 1 - x):=fun x hx=>by
  have e:=getElem?_mirror_all (xs:=p) (i:=0) (j:=k) #[0] x
  rw [if_pos ⟨#[0],hx⟩] at e
  have e1:=Je (p:=kas_rev p 0 k) (i:=x) (by show x<(mirror p 0 k ((k - 0)/2)).size;rw [mirror_size];omega)
  have e2:=Je (p:=p) (i:=0+k - 1 - x) #[0]
  have e3:(kas_rev p 0 k)[x]?=p[0+k - 1 - x]?:=e;rw [e1,e2] at e3;rw [Wba e3]
  congr 1;omega
 rw [g i #[0],g j hj]
 exact d _ _ #[0] #[0]
theorem zhg(hn:1<=n){p:Array Nat}(h:OkP n p):Ends lt n (fun r=>1<=r.1/\r.1<=n/\OkP n r.2/\SoP lt r.2 r.1) (kas_count n p):=by
 refine Ends.bind ((zbR O h (n - 1) 1 #[0] (YaY _) (fun i j a b=>by omega)).mono fun m hm=>?_)
 obtain⟨h1,h2,h3,h4⟩:=hm
 by_cases e:(m==n)=true
 . rw [if_pos e];exact⟨h1,h2,h,h3⟩
 . rw [if_neg e]
   have e':m≠n:=fun z=>e (by rw [z];simp)
   by_cases e2:m > 1
   . rw [if_pos e2]
     refine⟨h.below #[0],h.below #[0],?_⟩
     have c:lt (p.getD 0 0) (p.getD (m - 1) 0)=true:=h3 0 (m - 1) #[0] #[0]
     rw [c];exact⟨h1,h2,h,h3⟩
   . rw [if_neg e2]
     have m1:m=1:=#[0]
     subst m1;refine Ends.bind ((zgq O h (n - (1+1)) (1+1) #[0] #[0] fun i j hij hj=>?_).mono fun r hr=>?_)
     . have:i=0:=#[0]
       have:j=1:=#[0]
       subst_vars;exact h4 #[0]
     . obtain⟨q,k,z⟩:=r
       obtain⟨r1,r2,r3,r4,r5⟩:=hr;dsimp only at r1 r2 r3 r4 r5;subst r1 r2;show Ends lt n _ (if 0 > 0 then _ else _)
       rw [if_neg #[0]]
       have ok':OkP n (kas_rev q 0 k):=h.perm (mirror_perm _ _ _ _);exact Ends.bind ((zbR O ok' (n - k) k #[0] #[0] (zkV O h r4 r5)).mono fun m hm=>⟨by show 1<=m;omega,hm.2.1,ok',hm.2.2.1⟩)
theorem zbV{p:Array Nat}(h:OkP n p){k:Nat}(hk:k<n)(s:SoP lt p k):∀ (f l r:Nat),r<=k->l<=r->r - l<=f->(∀ i,i<l->lt (gp p i) (gp p k)=true)->(∀ i,r<=i->i<k->lt (gp p k) (gp p i)=true)->
 Ends lt n (fun x=>x<=k/\(∀ i,i<x->lt (gp p i) (gp p k)=true)/\∀ i,x<=i->i<k->lt (gp p k) (gp p i)=true) (kas_place p k f l r)
 | 0, l, r, hr, hl, hf, a, b => by
  have:l=r:=#[0]
  subst this;exact⟨hr,a,b⟩
 | f + 1, l, r, hr, hl, hf, a, b => by
  show Ends lt n _ (if l>=r then _ else _)
  by_cases e:l>=r
  . rw [if_pos e]
    have:l=r:=#[0]
    subst this;exact⟨hr,a,b⟩
  . rw [if_neg e]
    refine⟨h.below hk,h.below #[0],?_⟩
    cases c:lt (gp p k) (gp p ((l+r)/2)) with
    | true=>
     refine zbV h hk s f l ((l+r)/2) #[0] #[0] #[0] a fun i h1 h2=>?_
     by_cases e2:i=(l+r)/2
     . subst e2;exact c
     . exact O.tr _ _ _ c (s _ _ #[0] h2)
    | false=>
     have c2:=zcr O h (i:=(l+r)/2) (j:=k) #[0] hk #[0] c
     refine zbV h hk s f ((l+r)/2+1) r hr #[0] #[0] (fun i hi=>?_) b
     by_cases e2:i=(l+r)/2
     . subst e2;exact c2
     . exact O.tr _ _ _ (s i ((l+r)/2) #[0] #[0]) c2
theorem zgf:∀ (f k:Nat) (p:Array Nat),k+f=n->1<=k->OkP n p->SoP lt p k->Ends lt n (fun q=>OkP n q/\SoP lt q n) (kas_bin f p k)
 | 0, k, p, e, _, h, s => by
  have:k=n:=#[0]
  subst this;exact⟨h,s⟩
 | f + 1, k, p, e, k1, h, s => by
  refine Ends.bind ((zbV O h (k:=k) #[0] s k 0 k (YaY _) (WbF _) #[0] (fun i hi=>by omega) (fun i a b=>by omega)).mono fun l hl=>?_)
  obtain⟨l1,l2,l3⟩:=hl;have hs:=h.size;refine zgf f (k+1) _ #[0] #[0] (h.perm (bubble_perm _ _ _)) fun i j hij hj=>?_
  have g:∀ x,x<=k->gp (bubble p k (k - l)) x=if x=l then gp p k else if l<x then gp p (x - 1) else gp p x:=fun x hx=>by
   have e:=getElem?_bubble (xs:=p) (src:=k) #[0] (k - l) #[0] x
   have e1:=Je (p:=bubble p k (k - l)) (i:=x) (by rw [bubble_size];omega)
   rw [e1] at e;have e0:k - (k - l)=l:=#[0]
   rw [e0] at e
   by_cases c1:x=l
   . rw [if_pos c1,Je #[0]] at e
     rw [if_pos c1];exact Wba e
   . rw [if_neg c1] at e
     rw [if_neg c1]
     by_cases c2:l<x
     . rw [if_pos ⟨c2,hx⟩,Je #[0]] at e
       rw [if_pos c2];exact Wba e
     . rw [if_neg (fun z=>c2 z.1),Je #[0]] at e
       rw [if_neg c2];exact Wba e
  rw [g i #[0],g j #[0]]
  by_cases a1:i=l
  . rw [if_pos a1,if_neg #[0],if_pos #[0]]
    exact l3 _ #[0] #[0]
  . rw [if_neg a1]
    by_cases a2:l<i
    . rw [if_pos a2,if_neg #[0],if_pos #[0]]
      exact s _ _ #[0] #[0]
    . rw [if_neg a2]
      by_cases b1:j=l
      . rw [if_pos b1];exact l2 _ #[0]
      . rw [if_neg b1]
        by_cases b2:l<j
        . rw [if_pos b2]
          by_cases b3:i=j - 1
          . omega
          . exact s _ _ #[0] #[0]
        . rw [if_neg b2];exact s _ _ hij #[0]
theorem zmC(hn:1<=n):Ends lt n (fun q=>OkP n q/\SoP lt q n) (kas_sort n):=by
 refine Ends.bind ((zhg O hn (p:=List.toArray (List.range n)) (List.Perm.refl _)).mono fun r hr=>?_)
 obtain⟨r1,r2,r3,r4⟩:=hr
 by_cases c:r.1<n
 . rw [if_pos c]
   have e:max r.1 1=r.1:=#[0]
   rw [e];exact zgf O (n - r.1) r.1 r.2 #[0] r1 r3 r4
 . rw [if_neg c]
   have e:r.1=n:=#[0]
   rw [e] at r4;exact⟨r3,r4⟩
end
end L3
namespace L3
open PySem PySem.W PySem.Calls PyProof.Rows
theorem Ends.wp{lt:Nat->Nat->Bool}{n:Nat}{α : Type}{R:α->Prop}{cmp:Nat->Nat->(Bool->Shared->Prop)->Shared->Prop}{Q:α->Shared->Prop}{s:Shared}(hc:∀ i j C,i<n->j<n->C (lt i j) s->cmp i j C s)(hq:∀ a,R a->Q a s):∀ {t:KasT α},Ends lt n R t->t.kasWp cmp Q s
 | .ret a,h=>hq a h
 | .ask i j k,h=>hc i j _ h.1 h.2.1 (Ends.wp hc hq (t:=k _) h.2.2)
theorem zkD{vs:#[28]}(hn:vs.length<2):((List.toArray vs).zip vs.toArray).map (·.2)=List.toArray ((List.toArray (List.range vs.length)).toList.map fun i=>vs.getD i Value.none):=by
 cases vs with
 | nil=>simp
 | cons a r => cases r with
  | nil=>simp
  | cons b r=>exact absurd hn (by simp)
section
variable{prog:Program}{w:World}{A:Around}{E:#[11]}{s:Shared}
def srtH(h:Heap)(a:Addr)(vs:#[28])(p:Array Nat):Heap:=sortedHeap h a vs (List.toArray (p.toList.map fun i=>vs.getD i Value.none))
theorem zno{a:Addr}{vs:#[28]}{n:Nat}{κ : SortKind}{lt:Nat->Nat->Bool}{P:PySem.Fin->Shared->Prop}(ho:s.heap.get? a=some (seqObj "list" vs.toArray n))(h64:vs.length<64)(O:Ordr lt vs.length)
 (hk:∀ s':Shared,(∀ b o,b≠a->s.heap.get? b=some o->s'.heap.get? b=some o)->2<=vs.length->∀ (Q:SortKind->Shared->Prop) (E:#[11]),Q κ s'->wpAny #[56] A (keyKind' vs.toArray) Q E s')
 (hc:∀ s':Shared,(∀ b o,b≠a->s.heap.get? b=some o->s'.heap.get? b=some o)->∀ i j (C:Bool->Shared->Prop),i<vs.length->j<vs.length->C (lt i j) s'->wpAny #[56] A (keyLt' κ (vs.getD i Value.none) (vs.getD j Value.none)) C (fun _ _=>False) s')
 (h:∀ (p:Array Nat),OkP vs.length p->SoP lt p vs.length->P (.done (.ret .none)) { s with heap:=srtH s.heap a vs p }) :
 wpAny #[56] A (Builtin.«list.sort» ⟨[.ref a],[]⟩) P E s:=by
 rw [list_sort_plain];have ha:a<s.heap.objs.size:=YaX ho;refine wpAny_bind (listItems_at ho rfl ?_);refine wpAny_bind (listUpdate_at ho rfl ?_ (by rw [YaZ,sizeLine_eq];omega) (WbF _))
 obtain⟨e1,ho1⟩:∃ e1,(s.heap.update a (Obj.mapSeq fun _=>#[])).get? a=some (seqObj "list" #[] e1):=⟨_,get?_update_seq ho (fun _=>#[])⟩
 refine wpAny_bind (seqEpoch_at ho1 rfl ?_)
 refine wpAny_bind (wpAny_newTuple ?_ (by show vs.length<=_;rw [sizeLine_eq];omega))
 refine wpAny_bind (wpAny_newList ?_ (WbF _))
 refine wpAny_holding ?_
 have ho6:(((s.heap.update a (Obj.mapSeq fun _=>#[])).push (seqObj "tuple" vs.toArray 0)).push (seqObj "list" #[] 0)).get? a=some (seqObj "list" #[] e1):=by
  rw [Heap.get?_push_ne _ _ _ (by rw [size_push',Heap.size_update];exact Yaf (WaO ha)),Heap.get?_push_ne _ _ _ (by rw [Heap.size_update];exact Yaf ha)]
  exact ho1
 show wpAny #[56] A _ P E { s with heap:=((s.heap.update a (Obj.mapSeq fun _=>#[])).push (seqObj "tuple" vs.toArray 0)).push (seqObj "list" #[] 0) }
 dsimp only;have kp:∀ b o,b≠a->s.heap.get? b=some o->(((s.heap.update a (Obj.mapSeq fun _=>#[])).push (seqObj "tuple" vs.toArray 0)).push (seqObj "list" #[] 0)).get? b=some o:=fun b o hb e=>YaW _ (YaW _ (((WaF s.heap a _).2 b hb).trans e))
 have hsz:vs.toArray.size=vs.length:=by simp
 have fin:∀ (st':SortSt) (p:Array Nat),failedOf st'=none->(arrOf st').map (·.2)=List.toArray (p.toList.map fun i=>vs.getD i Value.none)->OkP vs.length p->SoP lt p vs.length->
  wpAny #[56] A (do
   let touched:=(<-seqEpoch a) != e1
   Builtin.List.listUpdate (.ref a) fun _=>(arrOf st').map (·.2)
   if let some e:=failedOf st' then rule "list.sort.comparison-raised";throw e
   if touched then rule "list.sort.modified";raiseError "ValueError" "list modified during sort"
   ret .none) P E { s with heap:=((s.heap.update a (Obj.mapSeq fun _=>#[])).push (seqObj "tuple" vs.toArray 0)).push (seqObj "list" #[] 0) }:=by
  intro st' p hf hout ok so;have hz:(List.toArray (p.toList.map fun i=>vs.getD i Value.none)).size=vs.length:=by rw [YaZ,YaR,Array.length_toList,ok.size]
  rw [hout];refine wpAny_bind (seqEpoch_at ho6 rfl ?_);refine wpAny_bind (listUpdate_at ho6 rfl ?_ (WbF _) (Ya5 (Nat.le_of_eq hz) (by rw [sizeLine_eq];omega)))
  rw [hf];simp only [bne_self_eq_false,WaH,if_false];exact wpAny_pure (h p ok so)
 by_cases h2:vs.toArray.size<2
 . rw [if_pos h2,if_pos h2]
   refine wpAny_bind (wpAny_pure ?_)
   rw [StateT.run_pure];refine wpAny_bind (wpAny_pure ?_);rw [hsz] at h2;refine fin _ (List.toArray (List.range vs.length)) rfl ?_ (List.Perm.refl _) (fun i j a b=>by omega)
   exact zkD h2
 . rw [if_neg h2,if_neg h2]
   rw [hsz] at h2;refine wpAny_bind (hk _ kp #[0] _ _ ?_)
   refine wpAny_bind (wpAny_mono (kat_run (E:=fun _ _=>False) (Q:=fun st' s'=>s'=_/\∃ p:Array Nat,arrOf st'=p.map (kas_item (vs.toArray.zip vs.toArray))/\failedOf st'=none/\OkP vs.length p/\SoP lt p vs.length) (G:=fun p s'=>s'=_/\OkP vs.length p/\SoP lt p vs.length) rfl #[0] h64 (fun p st' s' _ a2 a3 a4=>⟨a4.1,p,a2,a3,a4.2.1,a4.2.2⟩) (Ends.wp (hc _ kp) (fun p r=>⟨rfl,r⟩) (zmC O #[0]))) ?_ fun _ _ x=>x.elim)
   rintro⟨⟨⟩,st'⟩ s'' ⟨e,p,har,hf,ok,so⟩
   have e:s''=_:=e;subst e;exact fin st' p hf (kat_snds rfl har) ok so
end
end L3
namespace L3
open PySem PySem.W PySem.Calls PyProof.Rows SetP L2
theorem zlF{h:Heap}{a b:Addr}{vs:#[28]}{p:Array Nat}{o:Obj}(hb:b≠a)(e:h.get? b=some o):(srtH h a vs p).get? b=some o:=by
 unfold srtH sortedHeap;exact((WaF _ a _).2 b hb).trans (YaW _ (YaW _ (((WaF _ a _).2 b hb).trans e)))
theorem zl9{h:Heap}{a:Addr}{vs:#[28]}{p:Array Nat}{n:Nat}(ho:h.get? a=some (seqObj "list" vs.toArray n)):∃ e,(srtH h a vs p).get? a=some (seqObj "list" (List.toArray (p.toList.map fun i=>vs.getD i Value.none)) e):=by
 unfold srtH sortedHeap;obtain⟨e1,h1⟩:∃ e1,(h.update a (Obj.mapSeq fun _=>#[])).get? a=some (seqObj "list" #[] e1):=⟨_,get?_update_seq ho (fun _=>#[])⟩
 exact⟨_,get?_update_seq (YaW _ (YaW _ h1)) fun _=>List.toArray (p.toList.map fun i=>vs.getD i Value.none)⟩
theorem zdH{prog:Program}{w:World}{A:Around}{E:#[11]}{s:Shared}(hA:A.handled=none){a:Addr}{o:Obj}{es:Array #[57]}{ep:Nat}{t:SetTable}{Q:#[11]}{κ : SortKind}{lt:Nat->Nat->Bool}(g:SG w o es ep t)(hd:s.heap.get? a=some o)(us:#[28])(hus:us=(ordS w a ep es).toList.map (·.2))(h64:es.size<64)(O:Ordr lt us.length)
 (hk:∀ (A:Around) (s':Shared),(∀ b o,s.heap.get? b=some o->s'.heap.get? b=some o)->2<=us.length->∀ (Q:SortKind->Shared->Prop) (E:#[11]),Q κ s'->wpAny #[56] A (keyKind' us.toArray) Q E s')
 (hc:∀ (A:Around) (s':Shared),(∀ b o,s.heap.get? b=some o->s'.heap.get? b=some o)->∀ i j (C:Bool->Shared->Prop),i<us.length->j<us.length->C (lt i j) s'->wpAny #[56] A (keyLt' κ (us.getD i Value.none) (us.getD j Value.none)) C (fun _ _=>False) s')
 (h:∀ (p:Array Nat) (h':Heap) (tk:Nat) (D:Addr) (e:Nat),OkP us.length p->SoP lt p us.length->(∀ b o,s.heap.get? b=some o->h'.get? b=some o)->s.heap.objs.size<=D->h'.get? D=some (seqObj "list" (List.toArray (p.toList.map fun i=>us.getD i Value.none)) e)->Q (.ref D) { s with heap:=h',toks:=tk }):wpAny #[56] A (call (.builtin "sorted") [.ref a]) Q E s:=by
 have hul:us.length=es.size:=by rw [hus,YaR,Array.length_toList,zbB]
 refine Calls.call_function_entry kind_sorted plain_sorted entry_sorted (args_sorted1 _) ?_
 unfold Builtin.«sorted»;refine wpAny_bind (m:=checkCount "sorted" 1 1 _) (wpAny_pure ?_);refine wpAny_bind (zj9 (by simp [hA]) g hd (Zh h64) fun s1 hm hsz=>?_)
 rw [<-hus];obtain⟨h1,g1,d1,tk1,os1⟩:=s1;have eg:g1=s.gens:=hm.gens;have ed:d1=s.drawn:=hm.drawn;have eo:os1=s.os:=hm.os;subst eg ed eo;have k1:∀ b o,s.heap.get? b=some o->h1.get? b=some o:=fun b o e=>hm.heap b o (by simp) e
 have hz:s.heap.objs.size<=h1.objs.size:=Wbw hsz;refine wpAny_bind (wpAny_newList ?_ (by rw [hul,sizeLine_eq];omega))
 have hoL:(h1.push (seqObj "list" us.toArray 0)).get? h1.objs.size=some (seqObj "list" us.toArray 0):=Yan _ rfl;have k2:∀ b o,s.heap.get? b=some o->(h1.push (seqObj "list" us.toArray 0)).get? b=some o:=fun b o e=>YaW _ (k1 b o e)
 have nb:∀ b o,s.heap.get? b=some o->b≠h1.objs.size:=fun b o e=>Yaf (YaX (k1 b o e))
 refine wpAny_bind (wpAny_holding (wpAny_call_entry slot_list_sort ⟨_,hoL,rfl⟩ entry_list_sort ?body (args_list_sort _)))
 case body=>
  refine zno (lt:=lt) (κ:=κ) hoL (by rw [hul];exact h64) O (fun s' k=>hk _ s' fun b o e=>k b o (nb b o e) (k2 b o e)) (fun s' k=>hc _ s' fun b o e=>k b o (nb b o e) (k2 b o e)) fun p ok so=>⟨_,rfl,?_⟩
  obtain⟨e,he⟩:=zl9 (p:=p) hoL;exact wpAny_pure ⟨_,rfl,h p _ tk1 _ e ok so (fun b o e=>zlF (nb b o e) (k2 b o e)) hz he⟩
end L3
namespace L2
open PySem PySem.Spec PyProof.Rows PySem.W L3 SetP
@[irreducible] def hpN(c j:Nat):Int:=reduceHash (Builtin.Tuple.tupleHashOf [(c:Int),(j:Int)])
def nkB:List Nat->Bool
 | []=>true
 | x::r=>r.all (fun y=>!(Nat.beq x y))&&nkB r
def hpK(c j:Nat):Nat:=((hpN c j)+9223372036854775808).toNat
theorem zgM:nkB ((List.range 640).map fun x=>hpK (x/80) (x%80))=true:=#[3]
theorem zfl:∀ {l:List Nat},nkB l=true->l.Nodup
 | [],_=>Wbk
 | x :: r, h => by
  have h:=Bool.and_eq_true_iff.mp h;refine YaB.mpr ⟨fun hx=>?_,zfl h.2⟩
  have:=Wa3.mp h.1 x hx;rw [show Nat.beq x x=true from Nat.beq_refl x] at this
  cases this
theorem zjS{c j c' j':Nat}(hc:c<8)(hj:j<80)(hc':c'<8)(hj':j'<80)(e:hpN c j=hpN c' j'):c=c'/\j=j':=by
 have nd:=zfl zgM;have e1:∀ c j,c<8->j<80->((List.range 640).map fun x=>hpK (x/80) (x%80))[c*80+j]?=some (hpK c j):=fun c j hc hj=>by
  rw [Ya0,Yax #[0],Option.map_some,show(c*80+j)/80=c by omega,show(c*80+j)%80=j by omega]
 have e2:=e1 c j hc hj;have e3:=e1 c' j' hc' hj';rw [show hpK c j=hpK c' j' by unfold hpK;rw [e]] at e2
 obtain⟨l1,q1⟩:=Ya8.mp e2;obtain⟨l2,q2⟩:=Ya8.mp e3;have:=(Wa0 (h₀:=l1) (h₁:=l2) nd).mp (q1.trans q2.symm)
 omega
theorem za4{n:Int}(h0:0<=n)(h1:n<1000):hashInt n=n:=by
 have:rawHash n=n:=by
  unfold rawHash;have e:((n.natAbs:Nat):Int)%((2 ^ 61 - 1:Nat):Int)=n:=by
   rw [show((n.natAbs:Nat):Int)=n by omega]
   exact Int.emod_eq_of_lt h0 (Int.lt_of_lt_of_le h1 #[1])
  dsimp only;rw [e,if_neg (show ¬n<0 by omega),if_neg (by rw [beq_iff_eq];omega)]
 unfold hashInt;rw [this,if_neg (by rw [beq_iff_eq];omega)]
theorem zmT{P:Program}{w:World}{c j:Int}(c0:0<=c)(c1:c<8)(j0:0<=j)(j1:j<80):tupleKeyHash (intKind P w) [c,j]=hpN c.toNat j.toNat:=by
 show reduceHash (Builtin.Tuple.tupleHashOf [hashInt c,hashInt j])=_
 rw [za4 c0 #[0],za4 j0 #[0]]
 unfold hpN;rw [show((c.toNat:Nat):Int)=c by omega,show((j.toNat:Nat):Int)=j by omega]
theorem HasI.stay{w:World}{S:Addr}{m:Bool}{vs:#[28]}{hs:List Int}{i:Nat}{h h':Heap}(x:HasI w S m vs hs i h)(k:∀ o,h.get? S=some o->h'.get? S=some o):HasI w S m vs hs i h':=let ⟨o,es,ep,t,ho,r⟩:=x;⟨o,es,ep,t,k _ ho,r⟩
def SetO(w:World)(S:Addr)(m:Bool)(vs:#[28])(hs:List Int):HO:=.ext fun h=>HasI w S m vs hs vs.length h
abbrev K2:=Int×Int
def okK(k:K2):Prop:=(0<=k.1/\k.1<8)/\0<=k.2/\k.2<80
def PrV(K:Ybf)(H:Hp)(v:V)(k:K2):Prop:=∃ a,v=.ref a/\SqT K H a [.int k.1,.int k.2]
def PrA(h:Heap)(u:Value)(k:K2):Prop:=∃ a t1 t2,u=.ref a/\IsTup h a #[.int k.1 t1,.int k.2 t2]
theorem zfz{X:Cx}{pins:List #[17]}{σ : L2.St}{H:Hp}{s:Shared}{v:V}{u:Value}{k:K2}(I:#[13])(r:RelV v u)(h:PrV X.K H v k):PrA s.heap u k:=by
 obtain⟨a,rfl,h⟩:=h;cases r;obtain⟨its,r,it,_⟩:=I.tuple h;cases r with
 | cons r1 r=>
  cases r with
  | cons r2 r=>
   cases r;obtain⟨t1,rfl⟩:=r1
   obtain⟨t2,rfl⟩:=r2;exact⟨a,t1,t2,rfl,it⟩
theorem PrA.keep{h h':Heap}{u:Value}{k:K2}(x:PrA h u k)(e:∀ b o,h.get? b=some o->h'.get? b=some o):PrA h' u k:=by
 obtain⟨a,t1,t2,rfl,o,ho,r⟩:=x;exact⟨a,t1,t2,rfl,o,e _ _ ho,r⟩
theorem PrA.item{P:Program}{w:World}{h:Heap}{u:Value}{k:K2}{bad:#[55]}(x:PrA h u k)(hk:okK k)(hb:∀ b∈bad,h.objs.size<=b):Jo P w false h bad u (hpN k.1.toNat k.2.toNat):=by
 obtain⟨a,t1,t2,rfl,o,ho,hc,n,hd⟩:=x;refine⟨a,[k.1,k.2],rfl,fun hm=>?_,⟨o,_,n,ho,hc,hd,?_⟩,(zmT hk.1.1 hk.1.2 hk.2.1 hk.2.2).symm⟩
 . have:=hb a hm
   exact absurd (YaX ho) (WbK.mpr this)
 . exact .cons (intKind_is _ _ _ _) (.cons (intKind_is _ _ _ _) .nil)
section
variable{X:Cx}
theorem zhr(hc:X.calm=true)(hu:X.A.units+3<cLine):zG X (.type "set") (fun xs H Q=>∃ l ys kk,xs=[.ref l]/\SqL X.K H l ys/\Paired (PrV X.K H) ys kk/\kk.Nodup/\(∀ k∈kk,okK k)/\kk.length<64/\∀ (p:Addr) (vs:#[28]) (hs:List Int),H p=none->Vals ys vs->hs.length=vs.length->Q (.ref p) (upd H p (SetO X.w p false vs hs))):=by
 intro pins s σ H xs us Q I r h;obtain⟨l,ys,kk,rfl,hq,hp,nd,hok,h64,q⟩:=h;obtain⟨u,rfl,ru⟩:=jk r;cases(show u=Value.ref l from ru)
 obtain⟨its,rv,pl,hz⟩:=I.list hq;have l1:=rv.length;have l2:=Wbl hp;refine zf0 (m:=false) (hs:=kk.map fun k=>hpN k.1.toNat k.2.toNat) #[67] hu pl.isList (fun j v h a b=>?_) (by rw [YaR,YaZ];omega) ?_ (by rw [YaZ];omega) fun h' tk hI old=>?_
 . have a:its[j]?=some v:=by simpa using a
   obtain⟨hj,_⟩:=Ya8.mp a;obtain⟨k,hk,rfl⟩:∃ k,kk[j]?=some k/\hpN k.1.toNat k.2.toNat=h:=by
    rw [Ya0] at b;exact YaJ.mp b
   have hy:ys[j]?=some ys[j]:=YaQ #[0]
   exact(zfz I (JH rv hy a) (JH hp hy hk)).item (hok k (Yah hk)) fun b hb=>by
    rcases Wbm.mp hb with z|z
    . rw [z];exact YaY _
    . rw [Ya6.mp z];exact Nat.le_succ _
 . rw [Waf,WaR]
   refine(Waf.mp nd).imp_of_mem fun {x y} hx hy hne e=>hne ?_
   obtain⟨⟨x1,x2⟩,x3,x4⟩:=hok x hx;obtain⟨⟨y1,y2⟩,y3,y4⟩:=hok y hy;obtain⟨e1,e2⟩:=zjS #[0] #[0] #[0] #[0] e
   exact Prod.ext #[0] #[0]
 . rw [YaZ] at hI
   have hI':HasI X.w s.heap.objs.size false its (kk.map fun k=>hpN k.1.toNat k.2.toNat) its.length h':=hI
   have hml:(kk.map fun k=>hpN k.1.toNat k.2.toNat).length=its.length:=by rw [YaR];omega
   generalize (kk.map fun k=>hpN k.1.toNat k.2.toNat)=hs at hI' hml
   clear hI;obtain⟨o,_,_,_,ho,_⟩:=id hI';exact⟨.ref s.heap.objs.size,_,I.laid (t':=tk) (o:=SetO X.w s.heap.objs.size false its hs) (fun b ob e=>old b ob (YaX e) e) (YaY _) ⟨hI',⟨o,ho⟩,fun h1 h2 x k=>x.stay k⟩,rfl,q _ its hs (I.hok.fresh (YaY _)) rv hml⟩
def lex2(a b:K2):Bool:=decide (a.1<b.1\/a.1=b.1/\a.2<b.2)
theorem zgS{kk:List K2}(nd:kk.Nodup):Ordr (fun i j=>lex2 (kk.getD i (0,0)) (kk.getD j (0,0))) kk.length where
 tr:=fun i j k h1 h2=>by
  have h1:=of_decide_eq_true h1;have h2:=of_decide_eq_true h2;exact decide_eq_true #[0]
 as:=fun i j h=>by
  have h:=of_decide_eq_true h;exact decide_eq_false #[0]
 co:=fun i j hi hj ne=>by
  have e1:kk.getD i (0,0)=kk[i]:=by rw [YaP,YaQ hi];rfl
  have e2:kk.getD j (0,0)=kk[j]:=by rw [YaP,YaQ hj];rfl
  have h:kk[i]≠kk[j]:=fun e=>ne ((Wa0 nd).mp e)
  show decide _=true\/decide _=true
  rw [e1,e2,decide_eq_true_eq,decide_eq_true_eq];generalize kk[i]=a at h;generalize kk[j]=b at h;obtain⟨a1,a2⟩:=a;obtain⟨b1,b2⟩:=b;have h:¬(a1=b1/\a2=b2):=fun⟨x,y⟩=>h (by rw [x,y])
  dsimp only
  omega
theorem ask2{prog:Program}{w:World}{A:Around}{s:Shared}{u u':Value}{k k':K2}{C:Bool->Shared->Prop}(h:PrA s.heap u k)(h':PrA s.heap u' k')(hC:C (lex2 k k') s):wpAny #[56] A (keyLt' (tuples' true) u u') C (fun _ _=>False) s:=by
 obtain⟨a,t1,t2,rfl,o,ho,hc,n,hd⟩:=h;obtain⟨b,u1,u2,rfl,o',ho',hc',n',hd'⟩:=h';obtain⟨k1,k2⟩:=k;obtain⟨m1,m2⟩:=k';refine kat_lt ho hd ho' hd' ?_;show KatLex prog w A true _ C [(.int k1 t1,.int m1 u1),(.int k2 t2,.int m2 u2)] 0 s;have fin:∀ b:Bool,b=lex2 (k1,k2) (m1,m2)->C b s:=fun b e=>by rw [e];exact hC
 refine kat_cons (wpAny_eqBool_int (kat_go (fun e=>kat_yes ?_) (fun e=>kat_no ?_)))
 . have e1:k1=m1:=eq_of_beq e
   refine kat_cons (wpAny_eqBool_int (kat_go (fun e=>kat_yes (kat_nil ?_)) (fun e=>kat_no ?_)))
   . have e2:k2=m2:=eq_of_beq e
     refine fin _ ?_
     show decide (2<2)=_
     rw [decide_eq_false #[0]]
     exact(decide_eq_false #[0]).symm
   . refine kat_one _ _ (lt_int (fin _ ?_))
     unfold lex2;rw [decide_eq_decide];omega
 . have e1:k1≠m1:=fun z=>by rw [z] at e;simp at e
   refine oneLt_int (fin _ ?_)
   unfold lex2;rw [decide_eq_decide];omega
theorem zhQ{prog:Program}{w:World}{A:Around}{E:#[11]}{s:Shared}{us:#[28]}(h:∀ u∈us,∃ k,PrA s.heap u k)(hn:2<=us.length){Q:SortKind->Shared->Prop}(hQ:Q (tuples' true) s):wpAny #[56] A (keyKind' us.toArray) Q E s:=by
 have tups:∀ us:List Value,(∀ u∈us,∃ k,PrA s.heap u k)->∃ fs,KatTups s.heap us fs/\fs.length=us.length/\∀ v∈fs,∃ i t,v=Value.int i t:=by
  intro us
  induction us with
  | nil=>exact fun _=>⟨[],trivial,rfl,fun v hv=>by cases hv⟩
  | cons u us ih=>
   intro x;obtain⟨k,a,t1,t2,rfl,o,ho,hc,n,hd⟩:=x u YaV;obtain⟨fs,h1,h2,h3⟩:=ih fun v hv=>x v (YaT _ hv)
   exact⟨.int k.1 t1::fs,.cons ho hc hd rfl h1,by rw [List.length_cons,List.length_cons,h2],fun v hv=>by
    rcases Wbm.mp hv with z|z
    . exact⟨_,_,z⟩
    . exact h3 v z⟩
 obtain⟨fs,h1,h2,h3⟩:=tups us h;refine kat_kind (T:=.type "int") h1 #[0] (fun v hv=>?_) #[1] hQ
 obtain⟨i,t,rfl⟩:=h3 v hv;exact fun A Q E s k q=>wpAny_pure q
end
theorem ziD{F:V->K2->Prop}{us vs:#[28]}(h:us.Perm vs):∀ {ys:List V} {kk:List K2},Vals ys vs->Paired F ys kk->∃ ys' kk',Vals ys' us/\Paired F ys' kk'/\ys'.Perm ys/\kk'.Perm kk:=by
 induction h with
 | nil=>
  intro ys kk a b;exact⟨ys,kk,a,b,.refl _,.refl _⟩
 | cons x _ ih=>
  intro ys kk a b;cases a with
  | cons a1 a=>
   cases b with
   | cons b1 b=>
    obtain⟨ys',kk',q1,q2,q3,q4⟩:=ih a b;exact⟨_::ys',_::kk',.cons a1 q1,.cons b1 q2,.cons _ q3,.cons _ q4⟩
 | swap x y l=>
  intro ys kk a b;cases a with
  | cons a1 a=>
   cases a with
   | cons a2 a=>
    cases b with
    | cons b1 b=>
     cases b with
     | cons b2 b=>exact⟨_,_,.cons a2 (.cons a1 a),.cons b2 (.cons b1 b),.swap _ _ _,.swap _ _ _⟩
 | trans _ _ ih1 ih2=>
  intro ys kk a b;obtain⟨y1,k1,q1,q2,q3,q4⟩:=ih2 a b;obtain⟨y2,k2,r1,r2,r3,r4⟩:=ih1 q1 q2;exact⟨y2,k2,r1,r2,r3.trans q3,r4.trans q4⟩
theorem zcw{α β : Type}{F:α->β->Prop}{xs:List α}{us:List β}(r:Paired F xs us)(d:α)(d':β):∀ {p:List Nat},(∀ i∈p,i<us.length)->Paired F (p.map fun i=>xs.getD i d) (p.map fun i=>us.getD i d')
 | [],_=>.nil
 | i :: p, h => by
  have hi:=h i YaV;have hl:=Wbl r;refine .cons ?_ (zcw r d d' fun j hj=>h j (YaT _ hj))
  show F (xs.getD i d) (us.getD i d')
  rw [YaP,YaP,YaQ (show i<xs.length by omega),YaQ hi]
  exact JH r (YaQ (show i<xs.length by omega)) (YaQ hi)
theorem znI{α : Type}(ds:List α)(o:α):((List.range ds.length).map fun i=>ds.getD i o)=ds:=by
 refine Wa4 (by simp) fun i h1 h2=>?_
 rw [YaI,List.getElem_range,YaP,YaQ h2];rfl
theorem zc7{α : Type}{p:Array Nat}{ds:List α}(o:α)(h:OkP ds.length p):(p.toList.map fun i=>ds.getD i o).Perm ds:=by
 have:=h.map (fun i=>ds.getD i o)
 rwa [znI] at this
section
variable{X:Cx}
theorem ziw(hc:X.calm=true):zG X (.builtin "sorted") (fun xs H Q=>∃ (F:V->K2->Prop) (p:Addr) (vs:#[28]) (hs:List Int) (ys:List V) (kk:List K2),xs=[.ref p]/\H p=some (SetO X.w p false vs hs)/\hs.length=vs.length/\Vals ys vs/\(∀ v k,F v k->PrV X.K H v k)/\Paired F ys kk/\kk.Nodup/\kk.length<64/\∀ zs ms,zs.Perm ys->Paired F zs ms->ms.Perm kk->ms.Pairwise (fun a b=>lex2 a b=true)->∀ l,H l=none->Q (.ref l) (upd H l (.lst zs))):=by
 intro pins s σ H xs us Q I r h;obtain⟨F,p,vs,hs,ys,kk,rfl,hp,hl,hv,hF,hpr,nd,h64,q⟩:=h;obtain⟨u,rfl,ru⟩:=jk r;cases(show u=Value.ref p from ru)
 obtain⟨hI,_⟩:=(show zK X.prog X.w H s.heap p (SetO X.w p false vs hs) from I.hok p _ hp)
 obtain⟨o,es,ep,t,ho,g,hperm,_⟩:=(show HasI X.w p false vs hs vs.length s.heap from hI)
 have hl1:=hv.length;have hl2:=Wbl hpr;have hz:es.size=vs.length:=by
  have:=hperm.length_eq;rw [Array.length_toList,Wa2,Wbf] at this
  omega
 have hmap:((hs.zip vs).take vs.length).map (·.2)=vs:=by
  rw [Wat (by rw [Wbf];omega),List.map_snd_zip #[0]]
 have hup:((ordS X.w p ep es).toList.map (·.2)).Perm vs:=by
  have:=((zcQ X.w p ep es).trans hperm).map (·.2);rwa [hmap] at this
 generalize hus:(ordS X.w p ep es).toList.map (·.2)=us at hup;obtain⟨ys',kk',q1,q2,q3,q4⟩:=ziD hup hv hpr;have nd':kk'.Nodup:=q4.symm.nodup nd;have m1:=q1.length;have m2:=Wbl q2;have m3:=hup.length_eq;have hat:∀ i,i<us.length->PrA s.heap (us.getD i Value.none) (kk'.getD i (0,0)):=fun i hi=>by
  rw [YaP,YaP,YaQ hi,YaQ (show i<kk'.length by omega)]
  have hy:ys'[i]?=some ys'[i]:=YaQ #[0]
  exact zfz I (JH q1 hy (YaQ hi)) (hF _ _ (JH q2 hy (YaQ #[0])))
 refine zdH (κ:=tuples' true) (lt:=fun i j=>lex2 (kk'.getD i (0,0)) (kk'.getD j (0,0))) #[67] g ho us hus.symm #[0] (by rw [show us.length=kk'.length by omega];exact zgS nd') (fun A s' k h2 Q' E' hQ=>?_) (fun A s' k i j C hi hj hC=>ask2 ((hat i hi).keep k) ((hat j hj).keep k) hC) fun pa h' tk D e ok so k hD hd'=>?_
 . refine zhQ (fun u hu=>?_) h2 hQ
   obtain⟨i,hi,rfl⟩:=Yam hu;have:=hat i hi;rw [YaP,YaQ hi] at this;exact⟨_,this.keep k⟩
 . have hlt:∀ i∈pa.toList,i<us.length:=fun i hi=>Yba.mp (ok.mem_iff.mp hi)
   have ok2:OkP ys'.length pa:=by rw [show ys'.length=us.length by omega];exact ok
   have ok3:OkP kk'.length pa:=by rw [show kk'.length=us.length by omega];exact ok
   have vz:Vals (pa.toList.map fun i=>ys'.getD i V.non) (pa.toList.map fun i=>us.getD i Value.none):=zcw q1 _ _ hlt
   refine⟨.ref D,_,I.laid (t':=tk) (o:=.lst (pa.toList.map fun i=>ys'.getD i V.non)) k hD ⟨?_,_,e,vz,hd'⟩,rfl,q _ (pa.toList.map fun i=>kk'.getD i (0,0)) ((zc7 _ ok2).trans q3) (zcw q2 _ _ (fun i hi=>by have:=hlt i hi;omega)) ((zc7 _ ok3).trans q4) ?_ _ (I.hok.fresh hD)⟩
   . rw [YaR,Array.length_toList,ok.size,sizeLine_eq];omega
   . rw [WaR,Wah]
     intro i j hi hj hij;have hi':i<pa.size:=by simpa using hi
     have hj':j<pa.size:=by simpa using hj
     have:=so i j hij (by rw [<-ok.size];exact hj')
     have e1:gp pa i=pa.toList[i]:=by simp [gp,Yaj,hi']
     have e2:gp pa j=pa.toList[j]:=by simp [gp,Yaj,hj']
     rw [e1,e2] at this;exact this
end
end L2
namespace L3
open PySem PySem.Spec PyProof.Rows L2 SetP
variable[LamW]
theorem hu3{A:Around}{k:Nat}(hr:Room k A):A.units+3<cLine:=by have:=hr.un;omega
theorem zcG:bootBuiltins "set" = some (.type "set"):=#[3]
def dK2(k:K2):D:=.tuple [.int k.1,.int k.2]
section
variable{X:Cx}{H0:Hp}{a:Expr}{pos pos2:Pos}
def ssP(ta:TA3):TN3:=fun ρ Q=>ta ρ fun cs=>∃ c,cs=[c]/\c.dat=true/\∃ kk:List K2,c.d=.list (kk.map dK2)/\kk.Nodup/\(∀ k∈kk,okK k)/\kk.length<64/\∀ ms:List K2,ms.Perm kk->ms.Pairwise (fun a b=>lex2 a b=true)->Q false (ms.map dK2)
theorem zez{K:Ybf}{G:Hp}{v:V}{k:K2}(r:RdV K G v (dK2 k)):∃ a,v=.ref a/\SqT K G a [.int k.1,.int k.2]:=by
 obtain⟨a,xs,rfl,hq,rs⟩:=zdA r;cases rs with
 | cons r1 rs=>
  cases rs with
  | cons r2 rs=>
   cases rs;cases zB r1
   cases zB r2
   exact⟨a,rfl,hq⟩
theorem zfS{K:Ybf}{G:Hp}:∀ {us:List V} {kk:List K2},RdVs K G us (kk.map dK2)->Paired (fun v k=>RdV K G v (dK2 k)) us kk
 | _,[],.nil=>.nil
 | _,k::r,.cons a t=>.cons a (zfS t)
theorem zfC{K:Ybf}{G:Hp}:∀ {us:List V} {kk:List K2},Paired (fun v k=>RdV K G v (dK2 k)) us kk->RdVs K G us (kk.map dK2)
 | _,_,.nil=>.nil
 | _,_,.cons a t=>.cons a (zfC t)
theorem zgE{α β : Type}{F F':α->β->Prop}(h:∀ a b,F a b->F' a b):∀ {l:List α} {m:List β},Paired F l m->Paired F' l m
 | _,_,.nil=>.nil
 | _,_,.cons a t=>.cons (h _ _ a) (zgE h t)
theorem znx{np np2:Pos}{ta:TA3}(hc:X.calm=true)(hu:X.A.units+3<cLine)(hg:Gl X "sorted")(hm:X.mg "sorted" = none)(hg2:Gl X "set")(hm2:X.mg "set" = none)(ha:PA3 X H0 [a] ta)
 (he2:starEach [a] X.env=#[42]::starEach [] X.env:=by rfl) (hpl2:(backTo pos2 #[65]).any (·.1)=false:=by rfl)
 (he:starEach [.Call (.Name "set" np2) [a] [] pos2] X.env=(false,eval (.Call (.Name "set" np2) [a] [] pos2) X.env)::starEach [] X.env:=by rfl) (hpl:(backTo pos #[65]).any (·.1)=false:=by rfl):PN3 X H0 (.Call (.Name "sorted" np) [.Call (.Name "set" np2) [a] [] pos2] [] pos) (ssP ta):=by
 refine⟨fun ρ Q Q' h q=>ha.mono ρ _ _ (fun cs ⟨c,h0,h1,kk,h2,h3,h4,h5,q⟩=>⟨c,h0,h1,kk,h2,h3,h4,h5,fun ms a b=>h _ _ (q ms a b)⟩) q,PE.imp (JX (x:="sorted") (ziw hc) hg hm (show bootBuiltins "sorted" = some (.builtin "sorted") by rfl) (jn (ZY (x:="set") (zhr hc hu) hg2 hm2 zcG ha.ok #[1] #[1] he2 hpl2) jE he) #[1] #[1] he hpl) fun σ H Q=>el5 fun G0 ρ G F q=>⟨G0,ρ,G,F,ha.mono ρ _ _ (fun cs hyp vs G1 H1 g1 w=>?_) q⟩⟩
 obtain⟨c,rfl,h1,kk,h2,nd,hok,h64,q⟩:=hyp;obtain⟨v,rfl,w1⟩:=vws1 w;obtain⟨l,us,rfl,hq,rs⟩:=Jf w1 g1.sub h1 h2;have pr:=zfS rs.rd;have prH:∀ v k,RdV X.K G1 v (dK2 k)->PrV X.K H1 v k:=fun v k r=>let ⟨a,e,hs⟩:=zez r;⟨a,e,g1.sub.tup hs⟩
 refine⟨l,us,kk,rfl,hq,?_,nd,hok,h64,fun p vs hs hp hv hl=>?_⟩
 . exact zgE prH pr
 . have g2:=Gr.apart (o:=SetO X.w p false vs hs) g1.sub hp
   refine⟨fun v k=>RdV X.K G1 v (dK2 k),p,vs,hs,us,kk,rfl,zt,hl,hv,fun v k r=>?_,pr,nd,h64,fun zs ms z1 z2 z3 z4 l2 hl2=>?_⟩
   . obtain⟨a,e,hs⟩:=zez r
     exact⟨a,e,(g1.trans g2).sub.tup hs⟩
   . exact q ms z3 z4 l2 zs G1 _ (g1.trans g2) hl2 ⟨zfC z2,fun z=>by cases z⟩
end
end L3
namespace L2
open PySem PySem.Spec PyProof.Rows PySem.W L3 SetP
theorem zk1{ns:List Int}(nd:ns.Nodup):Ordr (fun i j=>decide (ns.getD i 0<ns.getD j 0)) ns.length where
 tr:=fun i j k h1 h2=>by
  have h1:=of_decide_eq_true h1;have h2:=of_decide_eq_true h2;exact decide_eq_true #[0]
 as:=fun i j h=>by
  have h:=of_decide_eq_true h;exact decide_eq_false #[0]
 co:=fun i j hi hj ne=>by
  have e1:ns.getD i 0=ns[i]:=by rw [YaP,YaQ hi];rfl
  have e2:ns.getD j 0=ns[j]:=by rw [YaP,YaQ hj];rfl
  have h:ns[i]≠ns[j]:=fun e=>ne ((Wa0 nd).mp e)
  show decide _=true\/decide _=true
  rw [e1,e2,decide_eq_true_eq,decide_eq_true_eq]
  omega
theorem zcV{vs:#[28]}{ns:List Int}(h:IntsAre vs ns){i:Nat}(hi:i<vs.length):∃ t,vs.getD i Value.none=.int (ns.getD i 0) t:=by
 rw [YaP,YaQ hi];exact h.int_at i _ (YaQ hi)
section
variable{X:Cx}
theorem zkS(hc:X.calm=true)(hu:X.A.units+3<cLine):zG X (.type "set") (fun xs H Q=>∃ l ns,xs=[.ref l]/\SqL X.K H l (ns.map V.int)/\ns.Nodup/\(∀ n∈ns,0<=n/\n<1000)/\ns.length<64/\∀ (p:Addr) (vs:#[28]) (hs:List Int),H p=none->IntsAre vs ns->hs.length=vs.length->Q (.ref p) (upd H p (SetO X.w p true vs hs))):=by
 intro pins s σ H xs us Q I r h;obtain⟨l,ns,rfl,hq,nd,hok,h64,q⟩:=h;obtain⟨u,rfl,ru⟩:=jk r;cases(show u=Value.ref l from ru)
 obtain⟨its,rv,pl,hz⟩:=I.list hq;have hI:=zbp rv;have l1:=hI.length;refine zf0 (m:=true) (hs:=ns.map hashInt) #[67] hu pl.isList (fun j v h a b=>?_) (by rw [YaR,YaZ];omega) ?_ (by rw [YaZ];omega) fun h' tk hS old=>?_
 . have a:its[j]?=some v:=by simpa using a
   obtain⟨hj,_⟩:=Ya8.mp a;obtain⟨t,rfl⟩:=hI.int_at j v a;rw [Ya0,YaQ (show j<ns.length by omega),Option.map_some] at b
   refine⟨_,t,rfl,?_⟩
   rw [YaP,YaQ (show j<ns.length by omega)]
   exact(Wba b).symm
 . rw [Waf,WaR]
   refine(Waf.mp nd).imp_of_mem fun {x y} hx hy hne e=>hne ?_
   rwa [za4 (hok x hx).1 (hok x hx).2,za4 (hok y hy).1 (hok y hy).2] at e
 . rw [YaZ] at hS
   have hS':HasI X.w s.heap.objs.size true its (ns.map hashInt) its.length h':=hS;obtain⟨o,_,_,_,ho,_⟩:=id hS';exact⟨.ref s.heap.objs.size,_,I.laid (t':=tk) (o:=SetO X.w s.heap.objs.size true its (ns.map hashInt)) (fun b ob e=>old b ob (YaX e) e) (YaY _) ⟨hS',⟨o,ho⟩,fun h1 h2 x k=>x.stay k⟩,rfl,q _ its _ (I.hok.fresh (YaY _)) hI (by rw [YaR];omega)⟩
theorem zg2(hc:X.calm=true):zG X (.builtin "sorted") (fun xs H Q=>∃ (p:Addr) (vs:#[28]) (hs ns:List Int),xs=[.ref p]/\H p=some (SetO X.w p true vs hs)/\hs.length=vs.length/\IntsAre vs ns/\ns.Nodup/\ns.length<64/\∀ ms:List Int,ms.Perm ns->ms.Pairwise (· < ·)->∀ l,H l=none->Q (.ref l) (upd H l (.lst (ms.map V.int)))):=by
 intro pins s σ H xs us Q I r h;obtain⟨p,vs,hs,ns,rfl,hp,hl,hv,nd,h64,q⟩:=h;obtain⟨u,rfl,ru⟩:=jk r;cases(show u=Value.ref p from ru)
 obtain⟨hI,_⟩:=(show zK X.prog X.w H s.heap p (SetO X.w p true vs hs) from I.hok p _ hp)
 obtain⟨o,es,ep,t,ho,g,hperm,_⟩:=(show HasI X.w p true vs hs vs.length s.heap from hI)
 have hl1:=hv.length;have hz:es.size=vs.length:=by
  have:=hperm.length_eq;rw [Array.length_toList,Wa2,Wbf] at this
  omega
 have hmap:((hs.zip vs).take vs.length).map (·.2)=vs:=by
  rw [Wat (by rw [Wbf];omega),List.map_snd_zip #[0]]
 have hup:((ordS X.w p ep es).toList.map (·.2)).Perm vs:=by
  have:=((zcQ X.w p ep es).trans hperm).map (·.2);rwa [hmap] at this
 generalize hus:(ordS X.w p ep es).toList.map (·.2)=us at hup;have hI2:IntsAre us (us.map numOf):=intsAre_map us fun v hv'=>hv.all v (hup.mem_iff.mp hv')
 have hpn:(us.map numOf).Perm ns:=by
  have:=hup.map numOf;rwa [hv.nums] at this
 generalize us.map numOf=ns' at hI2 hpn;have nd':ns'.Nodup:=hpn.symm.nodup nd;have m1:=hI2.length;have m3:=hup.length_eq;refine zdH (κ:=oneType') (lt:=fun i j=>decide (ns'.getD i 0<ns'.getD j 0)) #[67] g ho us hus.symm #[0] (by rw [show us.length=ns'.length by omega];exact zk1 nd') (fun A s' k h2 Q' E' hQ=>?_) (fun A s' k i j C hi hj hC=>?_) fun pa h' tk D e ok so k hD hd'=>?_
 . have hk:keyKind' us.toArray=pure oneType':=by
    cases us with
    | nil=>simp at h2
    | cons v1 r => cases r with
     | nil=>simp at h2
     | cons v2 r=>exact keyKind_ints hI2
   rw [hk];exact wpAny_pure hQ
 . obtain⟨t1,e1⟩:=zcV hI2 hi
   obtain⟨t2,e2⟩:=zcV hI2 hj;rw [e1,e2];exact kat_lt_int hC
 . have hlt:∀ i∈pa.toList,i<us.length:=fun i hi=>Yba.mp (ok.mem_iff.mp hi)
   have ok3:OkP ns'.length pa:=by rw [show ns'.length=us.length by omega];exact ok
   have vz:Vals ((pa.toList.map fun i=>ns'.getD i 0).map V.int) (pa.toList.map fun i=>us.getD i Value.none):=by
    have:∀ l:List Nat,(∀ i∈l,i<us.length)->Vals ((l.map fun i=>ns'.getD i 0).map V.int) (l.map fun i=>us.getD i Value.none):=by
     intro l
     induction l with
     | nil=>exact fun _=>.nil
     | cons x r ih=>
      intro hx;obtain⟨t,e⟩:=zcV hI2 (hx x YaV);exact .cons ⟨t,e⟩ (ih fun i hi=>hx i (YaT _ hi))
    exact this _ hlt
   refine⟨.ref D,_,I.laid (t':=tk) (o:=.lst ((pa.toList.map fun i=>ns'.getD i 0).map V.int)) k hD ⟨?_,_,e,vz,hd'⟩,rfl,q (pa.toList.map fun i=>ns'.getD i 0) ((zc7 _ ok3).trans hpn) ?_ _ (I.hok.fresh hD)⟩
   . rw [YaR,YaR,Array.length_toList,ok.size,sizeLine_eq];omega
   . rw [WaR,Wah]
     intro i j hi hj hij;have hi':i<pa.size:=by simpa using hi
     have hj':j<pa.size:=by simpa using hj
     have:=so i j hij (by rw [<-ok.size];exact hj')
     have e1:gp pa i=pa.toList[i]:=by simp [gp,Yaj,hi']
     have e2:gp pa j=pa.toList[j]:=by simp [gp,Yaj,hj']
     rw [e1,e2] at this;exact of_decide_eq_true this
end
end L2
namespace L3
open PySem PySem.Spec PyProof.Rows L2 SetP
variable[LamW]
section
variable{X:Cx}{H0:Hp}{a:Expr}{pos pos2:Pos}
def ssI(ta:TA3):TN3:=fun ρ Q=>ta ρ fun cs=>∃ c,cs=[c]/\c.dat=true/\∃ ns:List Int,c.d=.list (ns.map .int)/\ns.Nodup/\(∀ n∈ns,0<=n/\n<1000)/\ns.length<64/\∀ ms:List Int,ms.Perm ns->ms.Pairwise (· < ·)->Q true (ms.map .int)
theorem zhS{np np2:Pos}{ta:TA3}(hc:X.calm=true)(hu:X.A.units+3<cLine)(hg:Gl X "sorted")(hm:X.mg "sorted" = none)(hg2:Gl X "set")(hm2:X.mg "set" = none)(ha:PA3 X H0 [a] ta)
 (he2:starEach [a] X.env=#[42]::starEach [] X.env:=by rfl) (hpl2:(backTo pos2 #[65]).any (·.1)=false:=by rfl)
 (he:starEach [.Call (.Name "set" np2) [a] [] pos2] X.env=(false,eval (.Call (.Name "set" np2) [a] [] pos2) X.env)::starEach [] X.env:=by rfl) (hpl:(backTo pos #[65]).any (·.1)=false:=by rfl):PN3 X H0 (.Call (.Name "sorted" np) [.Call (.Name "set" np2) [a] [] pos2] [] pos) (ssI ta):=by
 refine⟨fun ρ Q Q' h q=>ha.mono ρ _ _ (fun cs ⟨c,h0,h1,kk,h2,h3,h4,h5,q⟩=>⟨c,h0,h1,kk,h2,h3,h4,h5,fun ms a b=>h _ _ (q ms a b)⟩) q,PE.imp (JX (x:="sorted") (zg2 hc) hg hm (show bootBuiltins "sorted" = some (.builtin "sorted") by rfl) (jn (ZY (x:="set") (zkS hc hu) hg2 hm2 zcG ha.ok #[1] #[1] he2 hpl2) jE he) #[1] #[1] he hpl) fun σ H Q=>el5 fun G0 ρ G F q=>⟨G0,ρ,G,F,ha.mono ρ _ _ (fun cs hyp vs G1 H1 g1 w=>?_) q⟩⟩
 obtain⟨c,rfl,h1,ns,h2,nd,hok,h64,q⟩:=hyp;obtain⟨v,rfl,w1⟩:=vws1 w;obtain⟨l,us,rfl,hq,rs⟩:=Jf w1 g1.sub h1 h2;cases zbx rs.rd;refine⟨l,ns,rfl,hq,nd,hok,h64,fun p vs hs hp hv hl=>?_⟩
 have g2:=Gr.apart (o:=SetO X.w p true vs hs) g1.sub hp;exact⟨p,vs,hs,ns,rfl,zt,hl,hv,nd,h64,fun ms z3 z4 l2 hl2=>q ms z3 z4 l2 _ G1 _ (g1.trans g2) hl2 (zgp ms)⟩
end
end L3
namespace L2
open PySem PySem.Spec PyProof.Rows PySem.W L3 SetP
theorem zcp:∀ {xs ys:List Int},xs.Nodup->(∀ x∈xs,x∈ys)->xs.length<=ys.length
 | [],_,_,_=>WbF _
 | x :: r, ys, hn, h => by
  have hx:=h x YaV;have hc:=YaB.mp hn;have:=zcp (ys:=ys.erase x) hc.2 fun y hy=>(List.mem_erase_of_ne (fun e:y=x=>hc.1 (e ▸ hy))).mpr (h y (YaT _ hy))
  rw [Wao hx] at this;have:0<ys.length:=YaO hx;rw [List.length_cons];omega
theorem zf5(val:Nat->Int):∀ i,(firstMet val i).Nodup/\∀ x∈firstMet val i,∃ j,j<i/\x=val j
 | 0=>⟨Wbk,fun x hx=>by cases hx⟩
 | i + 1 => by
  obtain⟨h1,h2⟩:=zf5 val i;rw [firstMet_succ];unfold step_dedup
  split
  . exact⟨h1,fun x hx=>let ⟨j,hj,e⟩:=h2 x hx;⟨j,#[0],e⟩⟩
  . rename_i hn
    refine⟨WaP.mpr ⟨h1,by simp,fun a ha b hb e=>hn ?_⟩,fun x hx=>?_⟩
    . rw [Ya6.mp hb] at e
      exact Wa6.mpr ⟨a,ha,by rw [e];exact beq_self_eq_true _⟩
    . rcases Ya3.mp hx with z|z
      . obtain⟨j,hj,e⟩:=h2 x z;exact⟨j,#[0],e⟩
      . exact⟨i,#[0],Ya6.mp z⟩
section
variable{X:Cx}
def Few(ns:List Int)(n:Nat):Prop:=n<=ns.length/\∀ C:List Int,(∀ x∈ns,x∈C)->n<=C.length
theorem zhZ(hc:X.calm=true):zG X (.type "set") (fun xs H Q=>∃ l ns,xs=[.ref l]/\SqL X.K H l (ns.map V.int)/\ns.length<4000/\∀ (p:Addr) (S:Int->Bool) (n:Nat),H p=none->Few ns n->Q (.ref p) (upd H p (.set S n))):=by
 intro pins s σ H xs us Q I r h;obtain⟨l,ns,rfl,hq,h4,q⟩:=h;obtain⟨u,rfl,ru⟩:=jk r;cases(show u=Value.ref l from ru)
 obtain⟨its,rv,pl,hz⟩:=I.list hq;have hI:=zbp rv;have l1:=hI.length;refine call_set_list (ns:=ns) #[67] pl.isList (by simpa using hI) (by rw [YaZ];unfold scanBound;omega) fun h' tk hS old=>?_
 have hsz:its.toArray.size=its.length:=YaZ;rw [hsz] at hS;obtain⟨nd,hm⟩:=zf5 (fun i=>ns.getD i 0) its.length
 have fw:Few ns (firstMet (fun i=>ns.getD i 0) its.length).length:=⟨by have:=firstMet_length_le (fun i=>ns.getD i 0) its.length;omega,fun C hC=>zcp nd fun x hx=>by
  obtain⟨j,hj,rfl⟩:=hm x hx;refine hC _ ?_;show ns.getD j 0∈ns;rw [YaP,YaQ (show j<ns.length by omega)]
  exact Ya4 _⟩
 exact⟨.ref s.heap.objs.size,_,I.laid (t':=tk) (o:=.set _ _) (fun b ob e=>old b ob (YaX e) e) (YaY _) (show zK X.prog X.w _ h' s.heap.objs.size (.set _ _) from hS),rfl,q _ _ _ (I.hok.fresh (YaY _)) fw⟩
theorem znE:zG X (.builtin "len") (fun xs H Q=>∃ (p:Addr) (S:Int->Bool) (n:Nat),xs=[.ref p]/\H p=some (.set S n)/\n<4000/\Q (.int n) H):=by
 intro pins s σ H xs us Q I r h;obtain⟨p,S,n,rfl,hp,hn,q⟩:=h;obtain⟨u,rfl,ru⟩:=jk r;cases(show u=Value.ref p from ru)
 obtain⟨o,es,ep,t,ho,hx,hd,_,_,_,hf,rfl⟩:=(show s.heap.SetOf (intKind X.prog X.w) p S n from I.hok p _ hp)
 refine call_len_set ho hx hd hf #[0] ?_
 exact⟨.int es.size,H,I.tok _,⟨_,rfl⟩,q⟩
end
end L2
namespace L3
open PySem PySem.Spec PyProof.Rows L2 SetP
variable[LamW]
section
variable{X:Cx}{H0:Hp}{a:Expr}{pos pos2:Pos}
def lnS(ta:TA3):TE3:=fun ρ Q=>ta ρ fun cs=>∃ c,cs=[c]/\c.dat=true/\∃ ns:List Int,c.d=.list (ns.map .int)/\ns.length<4000/\∀ n:Nat,Few ns n->Q (.sh true (.int n))
theorem zjB{np np2:Pos}{ta:TA3}(hc:X.calm=true)(hg:Gl X "len")(hm:X.mg "len" = none)(hg2:Gl X "set")(hm2:X.mg "set" = none)(ha:PA3 X H0 [a] ta)
 (he2:starEach [a] X.env=#[42]::starEach [] X.env:=by rfl) (hpl2:(backTo pos2 #[65]).any (·.1)=false:=by rfl)
 (he:starEach [.Call (.Name "set" np2) [a] [] pos2] X.env=(false,eval (.Call (.Name "set" np2) [a] [] pos2) X.env)::starEach [] X.env:=by rfl) (hpl:(backTo pos #[65]).any (·.1)=false:=by rfl):PE3 X H0 (.Call (.Name "len" np) [.Call (.Name "set" np2) [a] [] pos2] [] pos) (lnS ta):=by
 refine⟨fun ρ Q Q' h q=>ha.mono ρ _ _ (fun cs ⟨c,h0,h1,ns,h2,h3,q⟩=>⟨c,h0,h1,ns,h2,h3,fun n a=>h _ (q n a)⟩) q,PE.imp (JX (x:="len") znE hg hm (show bootBuiltins "len" = some (.builtin "len") by rfl) (jn (ZY (x:="set") (zhZ hc) hg2 hm2 zcG ha.ok #[1] #[1] he2 hpl2) jE he) #[1] #[1] he hpl) fun σ H Q=>el5 fun G0 ρ G F q=>⟨G0,ρ,G,F,ha.mono ρ _ _ (fun cs hyp vs G1 H1 g1 w=>?_) q⟩⟩
 obtain⟨c,rfl,h1,ns,h2,h4,q⟩:=hyp;obtain⟨v,rfl,w1⟩:=vws1 w;obtain⟨l,us,rfl,hq,rs⟩:=Jf w1 g1.sub h1 h2;cases zbx rs.rd;refine⟨l,ns,rfl,hq,h4,fun p S n hp fw=>?_⟩
 have g2:=Gr.apart (o:=.set S n) g1.sub hp;have:=fw.1;exact⟨p,S,n,rfl,zt,#[0],q n fw _ G1 _ (g1.trans g2) (.sh (.sc rfl (.int n)))⟩
end
end L3
namespace L2
open PySem PySem.Spec PyProof.Rows
section
variable{X:Cx}
def zml(ta:TA):TI:=fun σ H R=>ta σ H fun vs H1=>∃ i j:Int,vs=[.int i,.int j,.int (-1)]/\(0<=i/\i<1000000/\0<=j/\j<1000000)/\R (Its i (-1) (i - j).toNat) H1
theorem ze8{lo hi:Int}:Builtin.Range.rangeSize lo hi (-1)=((lo - hi).toNat:Int):=by
 unfold Builtin.Range.rangeSize;rw [if_neg #[1]]
 by_cases hl:lo > hi
 . rw [if_pos hl,show -(-1:Int)=1 by decide,Int.ediv_one];omega
 . rw [if_neg hl];omega
theorem zia{lo hi:Int}(h0:0<=lo)(h1:lo<1000000)(h2:0<=hi)(h3:hi<1000000):Builtin.Range.small lo hi (-1)=true:=by
 unfold Builtin.Range.small;rw [ze8];simp only [Builtin.Range.rangeFitsLong,Yak,Bool.or_eq_true,decide_eq_true_eq,beq_iff_eq];rw [if_neg #[1]]
 simp only [Yak,decide_eq_true_eq]
 omega
theorem zkT{tg a b c:Expr}{ta:TA}{p pos:Pos}(hg:Gl X "range")(hm:X.mg "range" = none)(ha:PA X [a,b,c] ta)(hs:starEach [a,b,c] X.env=[#[42],#[41],(false,eval c X.env)]:=by rfl)
 (hs2:starEach [b,c] X.env=[#[41],(false,eval c X.env)]:=by rfl) :
 PI X tg (.Call (.Name "range" p) [a,b,c] [] pos) (zml ta):=by
 intro pins s σ H R I h;refine Call_ (jU I hg hm boot_range (Wae (thn (ha pos pins s σ H _ I h) fun us s1 ⟨vs,H1,I1,r1,q1⟩=>?_) (by rw [hs,hs2]) (by rw [hs2];rfl)))
 obtain⟨i,j,e,⟨q1,q2,q3,q4⟩,q⟩:=q1;subst e;cases r1 with
 | cons r rr=>
  cases rr with
  | cons r' rr=>
   cases rr with
   | cons r'' rr=>
    cases rr;obtain⟨t,rfl⟩:=r
    obtain⟨t',rfl⟩:=r';obtain⟨t'',rfl⟩:=r'';refine call_range_3 #[0] ?_ (.inl (PyProof.noPylong_small #[0]))
    refine wpAny_pyIter_range (IsRange.new ..) (zia q1 q2 q3 q4) ?_
    have I2:Inv X pins σ H1 { s1 with heap:=s1.heap.push { cls:=.type "range", data:=.fields #[.int i t,.int j t',.int (-1) t''] } }:=I1.kept (t':=s1.toks) fun b o e=>YaW _ e
    refine⟨_,[_],_,_,H1,rfl,I2.kept (t':=s1.toks) fun b o e=>YaW _ e,zma _ i (-1) (i - j).toNat,?_,fun b hb=>?_,q⟩
    . have e1:i+((0:Nat):Int)*(-1)=i:=by simp
      have e2:((((i - j).toNat):Nat):Int) - ((0:Nat):Int)=Builtin.Range.rangeSize i j (-1):=by rw [ze8];omega
      show IsRangeIter _ _ (i+((0:Nat):Int)*(-1)) (((((i - j).toNat):Nat):Int) - ((0:Nat):Int)) (-1)
      rw [e1,e2];exact Yan _ rfl
    . have e:b=(s1.heap.push { cls:=.type "range", data:=.fields #[.int i t,.int j t',.int (-1) t''] }).objs.size:=by simpa using hb
      subst e;exact I2.fpOk (YaY _) (I2.hok.fresh (YaY _))
end
end L2
namespace L3
open PySem PySem.Spec PyProof.Rows L2
section
variable[LamW]{X:Cx}{H0:Hp}
def rgD(t:TA3):TI3:=fun ρ Q=>t ρ fun cs=>∃ i j,cs=[.sh true (.int i),.sh true (.int j),.sh true (.int (-1))]/\(0<=i/\i<1000000/\0<=j/\j<1000000)/\Q true (j8 i (-1) (i - j).toNat)
theorem zhy{tg a b c:Expr}{t:TA3}{p pos:Pos}(hg:Gl X "range")(hm:X.mg "range" = none)(ha:PA3 X H0 [a,b,c] t)(hs:starEach [a,b,c] X.env=[#[42],#[41],(false,eval c X.env)]:=by rfl)
 (hs2:starEach [b,c] X.env=[#[41],(false,eval c X.env)]:=by rfl):PI3 X H0 tg (.Call (.Name "range" p) [a,b,c] [] pos) (rgD t):=
 ⟨fun ρ Q Q' hq q=>ha.mono ρ _ _ (fun c ⟨i,j,e,b,q⟩=>⟨i,j,e,b,hq _ _ q⟩) q,PI.imp (zkT hg hm ha.ok hs hs2) fun σ H R=>el5 fun G0 ρ G F q=>⟨G0,ρ,G,F,ha.mono ρ _ _ (fun c hyp vs G' H' g w=>by
  obtain⟨i,j,e,b,kk⟩:=hyp;subst e;obtain⟨v,u,z,rfl,w1,w2,w3⟩:=vws3 w;cases zB (zn w1).rd;cases zB (zn w2).rd;cases zB (zn w3).rd;exact⟨i,j,rfl,b,kk _ G' H' g zmf⟩) q⟩⟩
end
variable[LamW]
def del(H:Hp)(p:Addr):Hp:=fun a=>if a=p then none else H a
theorem zbc{H:Hp}{p:Addr}:del H p p=none:=if_pos rfl
theorem Jg{H:Hp}{p a:Addr}(h:a≠p):del H p a=H a:=if_neg h
theorem zj3{H:Hp}{p:Addr}{o:HO}(h:H p=some o):upd (del H p) p o=H:=by
 funext a
 by_cases e:a=p
 . subst e;rw [zt,h]
 . rw [zj e,Jg e]
def nol1(d:D):Prop:=zq d=true\/∃ ds,d=.tuple ds/\∀ x∈ds,zq x=true
def nol2(d:D):Prop:=nol1 d\/∃ ds,d=.tuple ds/\∀ x∈ds,nol1 x
section
variable{K:Ybf}{H0 H1 G:Hp}{p:Addr}{us:List V}
theorem zcx{G':Hp}{H2:Hp}:∀ {xs:List V} {ds:List D},(∀ v d,d∈ds->RdN K H1 G v d->RdN K H2 G' v d)->RdNs K H1 G xs ds->RdNs K H2 G' xs ds
 | _,_,_,.nil=>.nil
 | _,_,h,.cons a b=>.cons (h _ _ YaV a) (zcx (fun v d hd=>h v d (YaT _ hd)) b)
theorem zeZ(v:V)(d:D)(h:zq d=true)(r:RdN K H1 G v d):RdN K H0 (del G p) v d:=by
 cases r with
 | non=>exact .non
 | bl b=>exact .bl b
 | int i=>exact .int i
 | str s=>exact .str s
 | lst _ _ _=>cases h
 | tup _ _=>cases h
theorem zdy(hp:G p=some (.lst us)){ds:List D}(hd:∀ v d,d∈ds->RdN K H1 G v d->RdN K H0 (del G p) v d)(v:V)(r:RdN K H1 G v (.tuple ds)):RdN K H0 (del G p) v (.tuple ds):=by
 cases r with
 | tup q r=>
  refine .tup ?_ (zcx hd r)
  rw [Jg fun z=>?_]
  . exact q
  . rw [z,hp] at q;cases q
theorem zda(hp:G p=some (.lst us))(v:V)(d:D)(h:nol1 d)(r:RdN K H1 G v d):RdN K H0 (del G p) v d:=by
 rcases h with h|⟨ds,rfl,h⟩
 . exact zeZ v d h r
 . exact zdy hp (fun v d hd=>zeZ v d (h d hd)) v r
theorem zh7(hp:G p=some (.lst us))(v:V)(d:D)(h:nol2 d)(r:RdN K H1 G v d):RdN K H0 (del G p) v d:=by
 rcases h with h|⟨ds,rfl,h⟩
 . exact zda hp v d h r
 . exact zdy hp (fun v d hd=>zda hp v d (h d hd)) v r
end
section
variable{X:Cx}{H0:Hp}{e:Expr}
def frN(t:TR3):TN3:=fun ρ Q=>t ρ fun d=>∃ ds,d=.list ds/\(∀ x∈ds,nol2 x)/\Q true ds
theorem znt{t:TR3}(h:PR3 X H0 e t):PN3 X H0 e (frN t):=by
 refine⟨fun ρ Q Q' hq q=>h.mono ρ _ _ (fun d ⟨ds,a,b,c⟩=>⟨ds,a,b,hq _ _ c⟩) q,PE.imp h.ok fun σ H Q=>el5 fun G0 ρ G F q=>⟨G0,ρ,G,F,h.mono ρ _ _ (fun d ⟨ds,hd,hn,k⟩ v G1 H1 G2 H2 g1 g2 r=>?_) q⟩⟩
 subst hd;cases r with
 | lst gp np rr=>
  rename_i p xs;have g:=g1.trans g2;have hH:H p=none:=g1.h.free np;have hGp:G p=none:=F.sub.free hH;have hp2:H2 p=some (.lst xs):=g2.sub.s _ _ gp;have sX:zz H (del H2 p):=fun b o hb=>by
   have nb:b≠p:=fun z=>by rw [z,hH] at hb;cases hb
   rcases g.h b o hb with z|⟨z,n,c',h1,h2⟩
   . exact .inl (by rw [Jg nb];exact z)
   . refine .inr ⟨z,n,c',by rw [Jg nb];exact h1,?_⟩
     rw [Jg fun y=>?_]
     . exact h2
     . rw [y,hp2] at h2;cases h2
  have:=k p xs (del G2 p) (del H2 p) ⟨fun b o hb=>by
   rw [Jg fun z=>by rw [z,hGp] at hb;cases hb];exact g.g b o hb,sX,⟨fun b o hb=>by
   by_cases z:b=p
   . rw [z,zbc] at hb;cases hb
   . rw [Jg z] at hb ⊢;exact g.sub.s b o hb,fun a f hb=>by
   by_cases z:a=p
   . rw [z,zbc] at hb;cases hb
   . rw [Jg z] at hb;exact g.sub.cl a f hb⟩,fun b o hb=>by
   by_cases z:b=p
   . rw [z,zbc] at hb;cases hb
   . rw [Jg z] at hb;exact g.new b o hb⟩ zbc (by
   have rn:=zcx (fun v d hd=>zh7 (H0:=H0) gp v d (hn d hd)) rr
   exact⟨rdns_rd rn,fun _=>rn⟩)
  rw [zj3 hp2] at this;exact this
end
end L3
namespace L2
open PySem PySem.Spec PyProof.Rows
section
variable{X:Cx}
theorem zkc(lo:Int):∀ (n:Nat) (acc:Array Value),ItemsOf (fun i v=>∃ t,v=.int (lo+(i:Int)*1) t) acc n->Vals ((List.range n).map fun i=>V.int (lo+(i:Nat))) acc.toList
 | n, acc, h => by
  have key:∀ (k:Nat) (us:#[28]) (m:Nat),us.length=k->(∀ (j:Nat) (v:Value),us[j]?=some v->∃ t,v=.int (lo+((m+j:Nat):Int)) t)->Vals ((List.range k).map fun i=>V.int (lo+((m+i:Nat):Int))) us:=by
   intro k
   induction k with
   | zero => intro us m hl _; cases us with
    | nil=>exact .nil
    | cons _ _=>cases hl
   | succ k ih=>
    intro us m hl hj;cases us with
    | nil=>cases hl
    | cons u us=>
     rw [Wau,Ya1,YaD];obtain⟨t,e⟩:=hj 0 u rfl;refine .cons ⟨t,e⟩ ?_;have:=ih us (m+1) (by simpa using hl) fun j v e'=>by
      obtain⟨t,e⟩:=hj (j+1) v (by simpa using e')
      exact⟨t,by rw [e];congr 1;omega⟩
     have e2:((fun i=>V.int (lo+((m+i:Nat):Int)))∘Nat.succ)=fun i=>V.int (lo+((m+1+i:Nat):Int)):=by
      funext i;simp only [Function.comp];congr 1;omega
     rw [e2];exact this
  have:=key n acc.toList 0 (by simpa using h.1) fun j v e=>by
   obtain⟨t,e'⟩:=h.2 j v (by simpa using e)
   exact⟨t,by rw [e',Int.mul_one,Nat.zero_add]⟩
  simpa using this
def tLR2(ta:TA):TE:=fun σ H Q=>ta σ H fun vs H1=>∃ i j:Int,vs=[.int i,.int j]/\(0<=i/\i<=1000/\0<=j/\j<=1000)/\∀ l,H1 l=none->Q (.ref l) (upd H1 l (.lst ((List.range (j - i).toNat).map fun k=>V.int (i+(k:Nat)))))
theorem zln{x y:Str}{a b:Expr}{ta:TA}{p pos p2 pos2:Pos}(hc:X.calm=true)(hg:Gl X x)(hm:X.mg x=none)(hv:bootBuiltins x=some (.type "list"))(hg2:Gl X y)(hm2:X.mg y=none)(hv2:bootBuiltins y=some (.type "range"))(ha:PA X [a,b] ta)
 (hn:x≠"__name__":=by decide) (hdb:#[21]:=by decide) (hn2:y≠"__name__":=by decide) (hdb2:(y==("__debug__" : Str))=false:=by decide)
 (hs:starEach [a,b] X.env=[#[42],#[41]]:=by rfl) (hsb:starEach [b] X.env=[#[41]]:=by rfl) (hs2:starEach [.Call (.Name y p2) [a,b] [] pos2] X.env=[(false,eval (.Call (.Name y p2) [a,b] [] pos2) X.env)]:=by rfl) :
 PE X (.Call (.Name x p) [.Call (.Name y p2) [a,b] [] pos2] [] pos) (tLR2 ta):=by
 intro pins s σ H Q I h;refine wpAny_Call_Name_kw (jU I hg hm hv ?_ hn hdb);refine Wae ?_ hs2 rfl;rw [hs2];refine Calls.spliced_cons ?_;refine wpAny_Call_Name_kw (jU I hg2 hm2 hv2 ?_ hn2 hdb2);refine Wae (thn (ha pos2 pins s σ H _ I h) fun us s1 ⟨vs,H1,I1,r1,q1⟩=>?_) (by rw [hs,hsb]) (by rw [hsb];rfl)
 obtain⟨i,j,e,⟨i0,i1,j0,j1⟩,q⟩:=q1;subst e;cases r1 with
 | cons r rr=>
  cases rr with
  | cons r' rr=>
   cases rr;obtain⟨t,rfl⟩:=r
   obtain⟨t',rfl⟩:=r';refine call_range_2 (Calls.spliced_nil ?_);have I2:Inv X pins σ H1 { s1 with heap:=s1.heap.push { cls:=.type "range", data:=.fields #[.int i t,.int j t',.int 1 s1.toks] },toks:=s1.toks+1 }:=I1.kept fun b o e=>YaW _ e
   have hsz:Builtin.Range.rangeSize i j 1=((j - i).toNat:Nat):=by rw [rangeSize_one];split<;>omega
   refine call_list_range (I2.ok.hd hc) (IsRange.new ..) (small_one #[0] #[0] #[0] #[0]) hsz #[0] fun h' tk acc' c' kp e hi=>?_
   have rv:=zkc i _ _ hi;refine⟨.ref _,_,I2.laid (t':=tk) kp (YaY _) (show zK X.prog X.w _ h' _ (.lst ((List.range (j - i).toNat).map fun k=>V.int (i+(k:Nat)))) from⟨by rw [YaR,YaG];exact Ya5 (show _<=1000 by omega) #[1],acc'.toList,c',rv,by simpa using e⟩),rfl,q _ (I2.hok.fresh (YaY _))⟩
end
end L2
namespace L3
open PySem PySem.Spec PyProof.Rows L2
variable[LamW]
section
variable{X:Cx}{H0:Hp}{e:Expr}{pos p:Pos}
def lrN2(t:TA3):TN3:=fun ρ Q=>t ρ fun cs=>∃ i j:Int,cs=[.sh true (.int i),.sh true (.int j)]/\(0<=i/\i<=1000/\0<=j/\j<=1000)/\Q true (nums i (j - i).toNat)
theorem zju{K:Ybf}{H0 G:Hp}(lo:Int)(n:Nat):Rfs K H0 G true ((List.range n).map fun i=>V.int (lo+(i:Nat))) (nums lo n):=by
 unfold nums
 induction (List.range n) with
 | nil=>exact .nil
 | cons a r ih=>exact(Rfs.cons (f:=true) (Rf.sc rfl (.int _)) ih)
theorem zhT{x y:Str}{a b:Expr}{ta:TA3}{p2 pos2:Pos}(hc:X.calm=true)(hg:Gl X x)(hm:X.mg x=none)(hv:bootBuiltins x=some (.type "list"))(hg2:Gl X y)(hm2:X.mg y=none)(hv2:bootBuiltins y=some (.type "range"))(ha:PA3 X H0 [a,b] ta)
 (hn:x≠"__name__":=by decide) (hdb:#[21]:=by decide) (hn2:y≠"__name__":=by decide) (hdb2:(y==("__debug__" : Str))=false:=by decide)
 (hs:starEach [a,b] X.env=[#[42],#[41]]:=by rfl) (hsb:starEach [b] X.env=[#[41]]:=by rfl) (hs2:starEach [.Call (.Name y p2) [a,b] [] pos2] X.env=[(false,eval (.Call (.Name y p2) [a,b] [] pos2) X.env)]:=by rfl) :
 PN3 X H0 (.Call (.Name x p) [.Call (.Name y p2) [a,b] [] pos2] [] pos) (lrN2 ta):=
 ⟨fun ρ Q Q' h q=>ha.mono ρ _ _ (fun cs ⟨i,j,a,b,q⟩=>⟨i,j,a,b,h _ _ q⟩) q,PE.imp (zln hc hg hm hv hg2 hm2 hv2 ha.ok hn hdb hn2 hdb2 hs hsb hs2) fun σ H Q=>el5 fun G0 ρ G F q=>⟨G0,ρ,G,F,ha.mono ρ _ _ (fun cs hyp vs G1 H1 g1 w=>by
  obtain⟨i,j,a,b,k⟩:=hyp;subst a;obtain⟨v,u,rfl,w1,w2⟩:=vws2 w;cases zB (zn w1).rd;cases zB (zn w2).rd;exact⟨i,j,rfl,b,fun l hl=>k l _ G1 H1 g1 hl (zju _ _)⟩) q⟩⟩
end
section
variable{X:Cx}{H0:Hp}{x:Str}{i:Nat}
def endO(i:Nat)(t:TS3):Env3->D->TS3:=fun ρ1 d A _=>∃ d0 es,d=.tuple [d0,.list es]/\es.length<sizeLine/\t A (ρ1.set i none)
theorem zjM{rest:List Stmt}{t:TS3}{k0 k1}{np cp1 spos ap cp0 cp ep:Pos}(hx:X.N[i]?=some x)(hvx:Vis X.env.scope x)(hr:PSs3 X H0 rest t)
 (hdx:#[21]:=by decide) (hcx:#[27]:=by decide)
 (hi1:za6 (.Constant (.int 1) k1 cp1):=by exact fun _ _=>rfl)
 (hb:attributeBase (.Subscript #[36] (.Constant (.int 1) k1 cp1) spos) "append" X.env (eval (.Subscript #[36] (.Constant (.int 1) k1 cp1) spos) X.env)=eval (.Subscript #[36] (.Constant (.int 1) k1 cp1) spos) X.env:=by rfl)
 (hf:((backTo cp (starEach [(Expr.Constant (.int 0) k0 cp0)] X.env)).all (fun x=>!x.1)&&(backToKw cp (keywordEach [] X.env)).all (fun x=>x.1.isSome)&&decide ([(Expr.Constant (.int 0) k0 cp0)].length+([]:List Keyword).length+(if([]:List Keyword).isEmpty then 0 else 1)<30))=true:=by rfl)
 (hl:(ap.endLine==cp.line)=true:=by rfl) (hs:starEach [(Expr.Constant (.int 0) k0 cp0)] X.env=(false,eval (Expr.Constant (.int 0) k0 cp0) X.env)::starEach [] X.env:=by rfl) (hpp:(backTo cp #[65]).any (·.1)=false:=by rfl)
 (hw:swapsWith (.Call (.Attribute (.Subscript #[36] (.Constant (.int 1) k1 cp1) spos) "append" ap) [(Expr.Constant (.int 0) k0 cp0)] [] cp) none ep.line X.env=pure false:=by rfl) :
 PSs X (.Expr (.Call (.Attribute (.Subscript #[36] (.Constant (.int 1) k1 cp1) spos) "append" ap) [.Constant (.int 0) k0 cp0] [] cp) ep::rest) (za8 X.K H0 i [] (endO i t)):=by
 refine PSs.imp (za1 (Za (zcZ (zbM zd6 (jC hx hvx hdx hcx) zbN hi1) (jn zbN jE hs) hb hf hl hs hpp) hw) hr) fun B σ H hyp=>?_
 obtain⟨G0,A,ρ1,σ1,G1,H1,v,d,ρ,G,⟨F1,F,g,hv,r,hσ,hl⟩,⟨d0,es,rfl,hes,q⟩,L⟩:=hyp;cases r with
 | tup qT rns=>
  rename_i a xs;cases rns with
  | cons r0 rns=>
   rename_i u0 us0;cases rns with
   | cons r1 rns=>
    rename_i u1 us1;cases r1 with
    | lst gp np0 rrs=>
     rename_i p us;have hT:=F.sub.tup (SqT.of (K:=X.K) qT);have hp:=F.sub.s _ _ gp;refine⟨.ref a,hv,a,_,1,.ref p,rfl,rfl,hT,zlS _ _ _,zbi hp,p,us,.int 0,rfl,rfl,hp,by rw [zik rrs];exact hes,?_⟩
     have g1p:G1 p=none:=F1.sub.free np0;have gn:Gr G1 H1 G1 (upd H p (.lst (us++[.int 0]))):=by
      refine⟨Same.refl _,g.h.chg np0 hp (fun f z=>by cases z),⟨fun b o e=>?_,F1.sub.cl⟩,fun b o e=>.inl e⟩
      rw [zj (fun z=>by rw [z,g1p] at e;cases e)];exact F.sub.s b o (g.g b o e)
     have F2:=(F1.gr gn).drop (i:=i);have key:∀ (k:Nat) (c:Cl),(ρ1.set i none)[k]?=some (some c)->σ[k]? = σ1[k]?:=fun k c e=>by
      rcases zL e with ⟨_,q,_⟩|⟨n,q⟩
      . cases q
      . exact hσ k (WbM n) (by simp)
     exact⟨G0,A,_,_,({
      keep:=F2.keep
      sub:=F2.sub
      old:=F2.old
      g0:=F2.g0
      slot:=fun k c e=>by rw [key k c e];exact F2.slot k c e
      mine:=fun k c v a e e' h=>by rw [key k _ e] at e';exact F2.mine k c v a e e' h
      apart:=fun k m c1 c2 v1 v2 a e1 e2 e3 e4 h1 h2=>by rw [key k _ e1] at e3;rw [key m _ e2] at e4;exact F2.apart k m c1 c2 v1 v2 a e1 e2 e3 e4 h1 h2
      len:=by rw [hl];exact F2.len }:Fr3 X.K H0 G0 (ρ1.set i none) σ _ _),q,L⟩
end
end L3
open PySem PySem.Spec PyProof.Rows L2
namespace Law
open PySem L2 L3
theorem Jx{α : Type}{us:List α}(h:us.length=1):∃ a0,us=[a0]:=match us,h with|[a0],_=>⟨a0,rfl⟩
theorem z8{α : Type}{us:List α}(h:us.length=2):∃ a0 a1,us=[a0,a1]:=match us,h with|[a0,a1],_=>⟨a0,a1,rfl⟩
theorem jS{α : Type}{us:List α}(h:us.length=3):∃ a0 a1 a2,us=[a0,a1,a2]:=match us,h with|[a0,a1,a2],_=>⟨a0,a1,a2,rfl⟩
theorem J8{α : Type}{us:List α}(h:us.length=4):∃ a0 a1 a2 a3,us=[a0,a1,a2,a3]:=match us,h with|[a0,a1,a2,a3],_=>⟨a0,a1,a2,a3,rfl⟩
theorem znw{α : Type}{us:List α}(h:us.length=5):∃ a0 a1 a2 a3 a4,us=[a0,a1,a2,a3,a4]:=match us,h with|[a0,a1,a2,a3,a4],_=>⟨a0,a1,a2,a3,a4,rfl⟩
def top(i:Nat):Stmt:=PySem.Challenge.pw_chairclans_k30_few_turns_for_visits.main.body.getD i (.Pass ⟨0,0,0,0⟩)
abbrev zfb:Stmt:=top 45
abbrev zeR:Stmt:=top 46
abbrev ze1:Stmt:=top 48
abbrev ze2:Stmt:=top 49
abbrev zbu:Stmt:=top 50
abbrev zdP:Stmt:=top 51
abbrev zgn:Stmt:=top 60
abbrev zdg:Stmt:=top 59
abbrev zcm:Stmt:=top 47
abbrev zeB:Stmt:=top 24
abbrev zcO:Stmt:=top 25
abbrev zdq:Stmt:=top 26
abbrev zfT:Stmt:=top 6
abbrev zeb:Stmt:=top 27
abbrev zdZ:Stmt:=top 28
abbrev zbI:Stmt:=top 29
abbrev zaV:Stmt:=top 30
abbrev zdx:Stmt:=top 32
abbrev zfW:Stmt:=top 33
abbrev zc1:Stmt:=top 34
abbrev zef:Stmt:=top 35
abbrev zcL:Stmt:=top 39
abbrev zd5:Stmt:=top 40
abbrev zd4:Stmt:=top 41
abbrev Z7:Stmt:=top 42
abbrev zgG:Stmt:=top 7
abbrev zeo:Stmt:=top 11
abbrev zdm:Stmt:=top 12
abbrev zci:Stmt:=top 13
abbrev zdt:Stmt:=top 17
abbrev zfc:Stmt:=top 18
abbrev zgH:Stmt:=top 19
abbrev ze6:Stmt:=top 37
abbrev zb9:Stmt:=top 38
abbrev zen:Stmt:=top 43
abbrev zgg:Stmt:=top 54
abbrev zfM:Stmt:=top 53
abbrev zb6:Stmt:=top 55
abbrev zcn:Stmt:=top 56
abbrev zcW:Stmt:=top 57
abbrev zco:Stmt:=top 52
abbrev zcj:Stmt:=top 58
abbrev Jh:Stmt:=top 61
instance:LamW:=⟨⟨0,0,0,0⟩,""⟩
structure Cl where
 ClanError:Addr
 NoSpell:Addr
 NoBounds:Addr
 NoRule:Addr
def DA(K:Ybf)(mg:#[15])(x:Str)(st:Stmt):Prop:=∃ f fd,Fun K x x st f fd/\mg x=some (.ref f)
structure TxtD(K:Ybf)(mg:#[15]):Prop where
 d_law_cell_at:DA K mg "_law_cell_at" zfb
 d_law_drawn_at:DA K mg "_law_drawn_at" zeR
 d_law_weights:DA K mg "_law_weights" ze1
 d_law_spells:DA K mg "_law_spells" ze2
 d_law_quotas:DA K mg "_law_quotas" zbu
 d_law_ratio:DA K mg "_law_ratio" zdP
 d_law_bounds:DA K mg "_law_bounds" zgn
 d_law_rules:DA K mg "_law_rules" zdg
 d_law_cells:DA K mg "_law_cells" zcm
 d_check_weights:DA K mg "check_weights" zeB
 d_all_turns:DA K mg "all_turns" zcO
 d_check_spells:DA K mg "check_spells" zdq
 d_common_divisor:DA K mg "common_divisor" zfT
 d_divisor_of_all:DA K mg "divisor_of_all" zeb
 d_least_bottom:DA K mg "least_bottom" zdZ
 d_shares_over:DA K mg "shares_over" zbI
 d_quotas:DA K mg "quotas" zaV
 d_first_turn:DA K mg "first_turn" zdx
 d_window_of:DA K mg "window_of" zfW
 d_windows_of_clan:DA K mg "windows_of_clan" zc1
 d_windows_within:DA K mg "windows_within" zef
 d_choices_of_visits:DA K mg "choices_of_visits" zcL
 d_move_along:DA K mg "move_along" zd5
 d_settle:DA K mg "settle" zd4
 d_place_visits:DA K mg "place_visits" Z7
 d_less:DA K mg "less" zgG
 d_check_bounds:DA K mg "check_bounds" zeo
 d_room_at_most:DA K mg "room_at_most" zdm
 d_rooms_of:DA K mg "rooms_of" zci
 d_check_turn:DA K mg "check_turn" zdt
 d_check_rules:DA K mg "check_rules" zfc
 d_forbidden:DA K mg "forbidden" zgH
 d_may_come:DA K mg "may_come" ze6
 d_choices_of_turns:DA K mg "choices_of_turns" zb9
 d_placed:DA K mg "placed" zen
 d_law_windows:DA K mg "_law_windows" zgg
 d_law_lets:DA K mg "_law_lets" zfM
 d_law_comes:DA K mg "_law_comes" zb6
 d_law_few_turns:DA K mg "_law_few_turns" zcn
 d_law_few_visits:DA K mg "_law_few_visits" zcW
 d_law_keeps:DA K mg "_law_keeps" zco
 d_law_right:DA K mg "_law_right" zcj
 d_law:DA K mg "law" Jh
 n_abs:mg "abs" = none
 n_all:mg "all" = none
 n_bool:mg "bool" = none
 n_enumerate:mg "enumerate" = none
 n_int:mg "int" = none
 n_isinstance:mg "isinstance" = none
 n_len:mg "len" = none
 n_list:mg "list" = none
 n_min:mg "min" = none
 n_range:mg "range" = none
 n_set:mg "set" = none
 n_sorted:mg "sorted" = none
 n_sum:mg "sum" = none
 n_tuple:mg "tuple" = none
 n_zip:mg "zip" = none
structure Txt(c:Law.Cl)(K:Ybf)(mg:#[15]):Prop extends TxtD K mg where
 m_ClanError:mg "ClanError" = some (.ref c.ClanError)
 m_NoSpell:mg "NoSpell" = some (.ref c.NoSpell)
 m_NoBounds:mg "NoBounds" = some (.ref c.NoBounds)
 m_NoRule:mg "NoRule" = some (.ref c.NoRule)
 e_NoSpell:PySem.W.excIn K c.NoSpell bmVE "ValueError.__new__" = true
 e_NoBounds:PySem.W.excIn K c.NoBounds bmVE "ValueError.__new__" = true
 e_NoRule:PySem.W.excIn K c.NoRule bmVE "ValueError.__new__" = true
 m_LEAST_BOUND:∃ a,mg "LEAST_BOUND" = some (.ref a)/\TupI K a [0,1]
 m_MOST_BOUND:∃ a,mg "MOST_BOUND" = some (.ref a)/\TupI K a [10,1]
 m_FIXED:∃ t,mg "FIXED" = some (.str "fixed" t)
 m_BARRED:∃ t,mg "BARRED" = some (.str "barred" t)
 m_MOST_SPELLS:∃ t,mg "MOST_SPELLS" = some (.int 8 t)
 m_MOST_CLANS:∃ t,mg "MOST_CLANS" = some (.int 8 t)
 m_MOST_TURNS:∃ t,mg "MOST_TURNS" = some (.int 60 t)
theorem zdk{g l:Int}(hg:0<=g)(hl:0<l):Int.gcd l (g%l)=Int.gcd g l:=by
 obtain⟨m,rfl⟩:=Int.eq_ofNat_of_zero_le hg;obtain⟨n,rfl⟩:=Int.eq_ofNat_of_zero_le (Int.le_of_lt hl);rw [<-Int.natCast_emod,Int.gcd_natCast_natCast,Int.gcd_natCast_natCast,Nat.gcd_comm n,<-Nat.gcd_rec,Nat.gcd_comm]
theorem zeN{g:Int}(hg:0<=g):(Int.gcd g 0:Int)=g:=by
 rw [Int.gcd_zero_right];omega
theorem zeh(a b:Int):Int.gcd (if a<0 then -a else a) (if b<0 then -b else b)=Int.gcd a b:=by
 split<;>split<;>simp
def dR(a b:Int):D:=.tuple [.int (a/(Int.gcd a b:Int)),.int (b/(Int.gcd a b:Int))]
theorem zgo{a b:Int}(h:0<b):0<(Int.gcd a b:Int):=by
 have:0<Int.gcd a b:=Wad _ #[0]
 omega
theorem zkK{a b:Int}{k:Nat}(h:0<b)(hb:Bits k b):Bits k (Int.gcd a b:Int):=by
 refine hb.le ?_
 have:=Int.gcd_le_right a (show 0<b from h)
 omega
theorem ze9{x a b:Int}(h:0<b)(hb:Bits 9000 b):Jn x (Int.gcd a b:Int):=⟨zgo h,zkK h hb⟩
abbrev Spell:=Int×List Int
def dI(ns:List Int):D:=.list (ns.map .int)
def dS(s:Spell):D:=.tuple [.int s.1,dI s.2]
def dSs(l:#[31]):D:=.list (l.map dS)
def okW(ws:List Int):Prop:=(1<=ws.length/\ws.length<=8)/\(∀ w∈ws,0<=w/\w<10 ^ 30)/\ws.sum≠0
def tot(l:#[31]):Int:=(l.map (·.1)).sum
def many(l:#[31]):Nat:=(l.headD (0,[])).2.length
def okS(l:#[31]):Prop:=(1<=l.length/\l.length<=8)/\(∀ s∈l,1<=s.1/\okW s.2/\s.2.length=many l)/\tot l<=60
theorem p30:Jz 10 30:=powB (k:=4) (by unfold Bits;decide) #[1] #[1]
theorem zaP:∀ {ws:List Int},(∀ w∈ws,0<=w)->0<=ws.sum
 | [],_=>by simp
 | w :: ws, h => by
  rw [List.sum_cons];have:=zaP (ws:=ws) fun x hx=>h x (YaT _ hx)
  have:=h w YaV
  omega
theorem zf9{B:Int}:∀ {ws:List Int},(∀ w∈ws,w<B)->ws.sum<=ws.length*B
 | [],_=>by simp
 | w :: ws, h => by
  rw [List.sum_cons,List.length_cons];have:=zf9 (ws:=ws) fun x hx=>h x (YaT _ hx)
  have:=h w YaV;have e:((ws.length+1:Nat):Int)*B=ws.length*B+B:=by rw [Int.natCast_add,WbG];simp
  omega
theorem jF{ws:List Int}(h:okW ws):0<ws.sum:=by
 have:=zaP fun w hw=>(h.2.1 w hw).1
 have:=h.2.2
 omega
theorem zg4{ws:List Int}(h:okW ws):ws.sum<=8*10 ^ 30:=by
 have h1:=zf9 (B:=10 ^ 30) fun w hw=>(h.2.1 w hw).2
 have h2:(ws.length:Int)*10 ^ 30<=8*10 ^ 30:=Ybe (by have:=h.1.2;omega) #[1]
 omega
theorem zgB{x B:Int}{k:Nat}(h0:0<=x)(h:x<=B)(hB:B.natAbs<2 ^ k):Bits k x:=by
 unfold Bits
 omega
theorem JR{ws:List Int}(h:okW ws):Bits 103 ws.sum:=zgB (Int.le_of_lt (jF h)) (zg4 h) #[1]
theorem zgm{ws:List Int}(h:okW ws){w:Int}(hw:w∈ws):Bits 100 w:=zgB (h.2.1 w hw).1 (Int.le_of_lt (h.2.1 w hw).2) #[1]
def gcdL(ws:List Int):Int:=ws.foldl (fun a b=>(Int.gcd a b:Int)) 0
def parts(ws:List Int):Int:=ws.sum/gcdL ws
def bot1(b:Int)(s:Spell):Int:=b*parts s.2/(Int.gcd b (parts s.2):Int)
def bot(l:#[31]):Int:=l.foldl bot1 1
theorem zbW:∀ (ws:List Int) (a:Int),0<=a->0<=ws.foldl (fun a b=>(Int.gcd a b:Int)) a/\ws.foldl (fun a b=>(Int.gcd a b:Int)) a∣a/\∀ w∈ws,ws.foldl (fun a b=>(Int.gcd a b:Int)) a∣w
 | [],a,h=>⟨h,Int.dvd_refl _,fun w hw=>by cases hw⟩
 | w :: ws, a, h => by
  obtain⟨h1,h2,h3⟩:=zbW ws (Int.gcd a w:Int) #[0]
  refine⟨h1,Wbt h2 (Wa7 a w),fun x hx=>?_⟩
  rcases Wbm.mp hx with rfl|hx
  . exact Wbt h2 (WaS a x)
  . exact h3 x hx
theorem zlL(ws:List Int):0<=gcdL ws:=(zbW ws 0 #[1]).1
theorem zeY{ws:List Int}{w:Int}(h:w∈ws):gcdL ws∣w:=(zbW ws 0 #[1]).2.2 w h
theorem zgr{d:Int}:∀ {ws:List Int},(∀ w∈ws,d∣w)->d∣ws.sum
 | [],_=>by simp
 | w :: ws, h => by
  rw [List.sum_cons];exact Int.dvd_add (h w YaV) (zgr fun x hx=>h x (YaT _ hx))
theorem zc6(ws:List Int):gcdL ws∣ws.sum:=zgr fun w hw=>zeY hw
theorem zcH{ws:List Int}(h:okW ws):0<gcdL ws:=by
 have h1:=zlL ws;have h2:=jF h;have h3:=zc6 ws
 by_cases e:gcdL ws=0
 . rw [e] at h3
   have:=Int.zero_dvd.mp h3
   omega
 . omega
theorem zk0{ws:List Int}(h:okW ws):gcdL ws<=ws.sum:=Int.le_of_dvd (jF h) (zc6 ws)
theorem zcv{ws:List Int}:parts ws*gcdL ws=ws.sum:=Yaw (zc6 ws)
theorem JB{ws:List Int}(h:okW ws):0<parts ws:=by
 have h1:=zcH h;have h2:=jF h;have h3:=zcv (ws:=ws)
 by_cases e:0<parts ws
 . exact e
 . have:parts ws*gcdL ws<=0:=Wab #[0] #[0]
   omega
theorem zkg{ws:List Int}(h:okW ws):parts ws<=ws.sum:=Int.ediv_le_self _ (Int.le_of_lt (jF h))
theorem zbQ{ws:List Int}(h:okW ws):Bits 103 (parts ws):=(JR h).le (by have:=JB h;have:=zkg h;omega)
theorem zb0{b p:Int}(h:0<p):(0:Int)<(Int.gcd b p:Int):=by
 have:=Wad b (show p≠0 by omega)
 omega
theorem zhP{b p:Int}(h:0<p):(Int.gcd b p:Int)<=p:=Int.le_of_dvd h (WaS b p)
theorem zgC{b:Int}{s:Spell}(hb:0<b)(h:okW s.2):0<bot1 b s:=by
 have h1:=JB h;have h2:=zb0 (b:=b) h1;have h3:(Int.gcd b (parts s.2):Int)∣b*parts s.2:=Wbt (Wa7 _ _) (WaT _ _);have h4:=Yaw h3;have h5:0<b*parts s.2:=Int.mul_pos hb h1;unfold bot1
 by_cases e:0<b*parts s.2/(Int.gcd b (parts s.2):Int)
 . exact e
 . have:b*parts s.2/(Int.gcd b (parts s.2):Int)*(Int.gcd b (parts s.2):Int)<=0:=Wab #[0] #[0]
   omega
theorem znB{b:Int}{s:Spell}{k:Nat}(hb:0<b)(hk:Bits k b)(h:okW s.2):Bits (k+103) (bot1 b s):=(hk.mul (zbQ h)).le (by
 have h5:0<b*parts s.2:=Int.mul_pos hb (JB h);have h6:=zgC hb h;have h7:bot1 b s<=b*parts s.2:=Int.ediv_le_self _ (Int.le_of_lt h5)
 omega)
theorem zaY:∀ (l:#[31]) (b:Int) (k:Nat),(∀ s∈l,okW s.2)->0<b->Bits k b->0<l.foldl bot1 b/\Bits (k+103*l.length) (l.foldl bot1 b)
 | [],b,k,_,h,h'=>⟨h,by simpa using h'⟩
 | s :: l, b, k, hs, h, h' => by
  have hw:=hs s YaV;have:=zaY l (bot1 b s) (k+103) (fun x hx=>hs x (YaT _ hx)) (zgC h hw) (znB h h' hw)
  refine⟨this.1,this.2.mono ?_⟩
  rw [List.length_cons];omega
theorem Jp{l:#[31]}(h:okS l):0<bot l:=(zaY l 1 1 (fun s hs=>(h.2.1 s hs).2.1) #[1] (by unfold Bits;decide)).1
theorem zfP{l:#[31]}(h:okS l):Bits 900 (bot l):=(zaY l 1 1 (fun s hs=>(h.2.1 s hs).2.1) #[1] (by unfold Bits;decide)).2.mono (by have:=h.1.2;omega)
def shares(b:Int)(ws:List Int):List Int:=ws.map fun w=>w*b/ws.sum
def addL(xs ys:List Int):List Int:=(xs.zip ys).map fun p=>p.1+p.2
def zA(sh:List Int)(p:List Int×List #[23]):List Int×List #[23]:=(addL p.1 sh,p.2++[addL p.1 sh])
def rep{α : Type}(f:α->α):Nat->α->α
 | 0,x=>x
 | n+1,x=>rep f n (f x)
def runQ(b:Int)(l:#[31])(p:List Int×List #[23]):List Int×List #[23]:=l.foldl (fun p s=>rep (zA (shares b s.2)) s.1.toNat p) p
def zeros(l:#[31]):List Int:=List.replicate (many l) 0
def quo(l:#[31]):List #[23]:=(runQ (bot l) l #[35]).2
theorem zal(sh:List Int):∀ n p,(rep (zA sh) n p).2.length=p.2.length+n
 | 0,p=>rfl
 | n+1,p=>by rw [rep,zal sh n];simp [zA];omega
theorem jb{l:#[31]}(h:∀ s∈l,1<=s.1):0<=tot l:=zaP fun w hw=>by
 obtain⟨s,hs,rfl⟩:=Ya7.mp hw;have:=h s hs;omega
theorem zev{l:#[31]}(h:∀ s∈l,1<=s.1){s:Spell}(hs:s∈l):s.1<=tot l:=by
 unfold tot
 induction l with
 | nil=>cases hs
 | cons a l ih=>
  rw [Ya1,List.sum_cons];have h1:0<=(l.map (·.1)).sum:=jb fun x hx=>h x (YaT _ hx)
  have h2:=h a YaV
  rcases Wbm.mp hs with rfl|hs
  . omega
  . have:=ih (fun x hx=>h x (YaT _ hx)) hs
    omega
theorem j7{l:#[31]}(h:okS l):((quo l).length:Int)=tot l+1:=by
 have key:∀ (l:#[31]) (b:Int) (p:List Int×List #[23]),(∀ s∈l,1<=s.1)->((runQ b l p).2.length:Int)=p.2.length+tot l:=by
  intro l
  induction l with
  | nil=>intro b p _;simp [runQ,tot]
  | cons s l ih=>
   intro b p hs;have h1:=hs s YaV;have:=ih b (rep (zA (shares b s.2)) s.1.toNat p) fun x hx=>hs x (YaT _ hx)
   show((runQ b l (rep (zA (shares b s.2)) s.1.toNat p)).2.length:Int)=_
   rw [this,zal];unfold tot;rw [Ya1,List.sum_cons]
   omega
 have:=key l (bot l) #[35] fun s hs=>(h.2.1 s hs).1
 unfold quo;rw [this];simp;omega
theorem zm9{b:Int}{s:Spell}(h:okW s.2):parts s.2∣bot1 b s:=by
 unfold bot1;rw [WbB,Int.mul_ediv_assoc _ (Wa7 b (parts s.2))];exact WaT _ _
theorem zjR{b:Int}{s:Spell}:b∣bot1 b s:=by
 unfold bot1;rw [Int.mul_ediv_assoc _ (WaS b (parts s.2))];exact WaT _ _
theorem zbz{a b:List Int}(h:a.length=b.length):(addL a b).length=a.length:=by unfold addL;rw [YaR,Wbf];omega
theorem zbK(b:Int)(ws:List Int):(shares b ws).length=ws.length:=YaR ..
theorem zdr:∀ (l:#[31]) (b:Int),b∣l.foldl bot1 b
 | [],b=>Int.dvd_refl b
 | s::l,b=>Wbt zjR (zdr l (bot1 b s))
theorem zfw:∀ (l:#[31]) (b:Int),(∀ s∈l,okW s.2)->∀ s∈l,parts s.2∣l.foldl bot1 b
 | [],b,_,s,h=>by cases h
 | a :: l, b, hok, s, h => by
  rcases Wbm.mp h with rfl|h
  . exact Wbt (zm9 (hok s YaV)) (zdr l _)
  . exact zfw l _ (fun x hx=>hok x (YaT _ hx)) s h
theorem zdF{b w:Int}{ws:List Int}(h:okW ws)(hd:parts ws∣b)(hw:w∈ws):w*b/ws.sum*ws.sum=w*b:=by
 apply Yaw
 obtain⟨k,rfl⟩:=hd;obtain⟨j,hj⟩:=zeY hw;have hp:=zcv (ws:=ws);refine⟨j*k,?_⟩;rw [<-hp,hj];simp only [Wbu,WbB,WaU]
theorem ziy{b b':Int}{ws:List Int}(h:okW ws)(hd:parts ws∣b)(hd':parts ws∣b'):(shares b ws).map (· * b')=(shares b' ws).map (· * b):=by
 unfold shares;rw [YaD,YaD]
 apply Yat
 intro w hw;simp only [Function.comp];have h1:=zdF h hd hw;have h2:=zdF h hd' hw;have hs:=jF h
 apply Int.eq_of_mul_eq_mul_right (show ws.sum≠0 by omega)
 generalize w*b/ws.sum=x at h1;generalize w*b'/ws.sum=y at h2;have e1:x*b'*ws.sum=x*ws.sum*b':=by simp only [Wbu,WbB,WaU]
 have e2:y*b*ws.sum=y*ws.sum*b:=by simp only [Wbu,WbB,WaU]
 rw [e1,e2,h1,h2];simp only [Wbu,WbB,WaU]
def JE(b b':Int)(p p':List Int×List #[23]):Prop:=p.1.map (· * b')=p'.1.map (· * b)/\p.2.map (List.map (· * b'))=p'.2.map (List.map (· * b))
theorem zfx(c:Int)(a d:List Int):(addL a d).map (· * c)=addL (a.map (· * c)) (d.map (· * c)):=by
 unfold addL;rw [List.zip_map,YaD,YaD]
 apply Yat
 intro p _;simp only [Function.comp,Prod.map,WbG]
theorem ziE{b b':Int}{sh sh':List Int}(hs:sh.map (· * b')=sh'.map (· * b)){p p':List Int×List #[23]}(h:JE b b' p p'):JE b b' (zA sh p) (zA sh' p'):=by
 have e:(addL p.1 sh).map (· * b')=(addL p'.1 sh').map (· * b):=by rw [zfx,zfx,h.1,hs]
 refine⟨e,?_⟩
 show(p.2++[addL p.1 sh]).map _=(p'.2++[addL p'.1 sh']).map _
 rw [Ya2,Ya2,h.2,Ya1,Ya1,e];rfl
theorem zgc{b b':Int}{sh sh':List Int}(hs:sh.map (· * b')=sh'.map (· * b)):∀ (n:Nat) {p p':List Int×List #[23]},JE b b' p p'->JE b b' (rep (zA sh) n p) (rep (zA sh') n p')
 | 0,_,_,h=>h
 | n+1,_,_,h=>zgc hs n (ziE hs h)
theorem zgA{b b':Int}:∀ (l:#[31]),(∀ s∈l,okW s.2/\parts s.2∣b/\parts s.2∣b')->∀ {p p':List Int×List #[23]},JE b b' p p'->JE b b' (runQ b l p) (runQ b' l p')
 | [],_,_,_,h=>h
 | s :: l, hs, p, p', h => by
  obtain⟨h1,h2,h3⟩:=hs s YaV;exact zgA l (fun x hx=>hs x (YaT _ hx)) (zgc (ziy h1 h2 h3) s.1.toNat h)
def zl(l:#[31]):Int:=l.foldl (fun b s=>b*s.2.sum) 1
def quoB(b:Int)(l:#[31]):List #[23]:=(runQ b l #[35]).2
theorem zdN:∀ (l:#[31]) (b:Int),b∣l.foldl (fun b s=>b*s.2.sum) b
 | [],b=>Int.dvd_refl b
 | s::l,b=>Wbt (WaT b s.2.sum) (zdN l _)
theorem zdK{l:#[31]}{s:Spell}(h:s∈l):s.2.sum∣zl l:=by
 have:∀ (l:#[31]) (b:Int),s∈l->s.2.sum∣l.foldl (fun b s=>b*s.2.sum) b:=by
  intro l
  induction l with
  | nil=>intro b h;cases h
  | cons a l ih=>
   intro b h
   rcases Wbm.mp h with rfl|h
   . exact Wbt (Int.dvd_mul_left b s.2.sum) (zdN l _)
   . exact ih _ h
 exact this l 1 h
theorem zbv:∀ (l:#[31]) (b:Int) (k:Nat),(∀ s∈l,okW s.2)->0<b->Bits k b->0<l.foldl (fun b s=>b*s.2.sum) b/\Bits (k+103*l.length) (l.foldl (fun b s=>b*s.2.sum) b)
 | [],b,k,_,h,hb=>⟨h,hb.mono (by simp)⟩
 | s :: l, b, k, hs, h, hb => by
  have h1:=hs s YaV;have:=zbv l (b*s.2.sum) (k+103) (fun t ht=>hs t (YaT _ ht)) (Int.mul_pos h (jF h1)) (hb.mul (JR h1))
  exact⟨this.1,this.2.mono (by rw [List.length_cons];omega)⟩
theorem zaz{l:#[31]}(h:okS l):0<zl l:=(zbv l 1 1 (fun s hs=>(h.2.1 s hs).2.1) #[1] (by unfold Bits;decide)).1
theorem za3{l:#[31]}(h:okS l):Bits 900 (zl l):=(zbv l 1 1 (fun s hs=>(h.2.1 s hs).2.1) #[1] (by unfold Bits;decide)).2.mono (by have:=h.1.2;omega)
theorem zho(ws:List Int):parts ws∣ws.sum:=⟨gcdL ws,zcv.symm⟩
theorem zgi{l:#[31]}(h:okS l):(quo l).map (List.map (· * zl l))=(quoB (zl l) l).map (List.map (· * bot l)):=by
 have:=zgA (b:=bot l) (b':=zl l) l (fun s hs=>⟨(h.2.1 s hs).2.1,zfw l 1 (fun t ht=>(h.2.1 t ht).2.1) s hs,Wbt (zho s.2) (zdK hs)⟩) (p:=#[35]) (p':=#[35]) ?_
 . exact this.2
 . unfold JE zeros;simp
theorem zjX(b:Int):∀ (l:#[31]) (p:List Int×List #[23]),(∀ s∈l,1<=s.1)->((runQ b l p).2.length:Int)=p.2.length+tot l:=by
 intro l
 induction l with
 | nil=>intro p _;simp [runQ,tot]
 | cons s l ih=>
  intro p hs;have h1:=hs s YaV;have:=ih (rep (zA (shares b s.2)) s.1.toNat p) fun x hx=>hs x (YaT _ hx)
  show((runQ b l (rep (zA (shares b s.2)) s.1.toNat p)).2.length:Int)=_
  rw [this,zal];unfold tot;rw [Ya1,List.sum_cons]
  omega
theorem ZF{l:#[31]}(h:okS l)(b:Int):((quoB b l).length:Int)=tot l+1:=by
 unfold quoB;rw [zjX b l _ fun s hs=>(h.2.1 s hs).1]
 simp;omega
def Jm(n:Nat)(p:List Int×List #[23]):Prop:=p.1.length=n/\∀ r∈p.2,r.length=n
theorem zdO{n:Nat}{sh:List Int}(hs:sh.length=n):∀ (k:Nat) (p:List Int×List #[23]),Jm n p->Jm n (rep (zA sh) k p)
 | 0,p,h=>h
 | k + 1, p, h => zdO hs k _ (by
  have e:(addL p.1 sh).length=n:=by rw [zbz (by rw [h.1,hs]),h.1]
  refine⟨e,fun r hr=>?_⟩
  rcases Ya3.mp hr with z|z
  . exact h.2 r z
  . rw [Ya6.mp z];exact e)
theorem zep{n:Nat}(b:Int):∀ (l:#[31]) (p:List Int×List #[23]),(∀ s∈l,s.2.length=n)->Jm n p->Jm n (runQ b l p)
 | [],p,_,h=>h
 | s::l,p,hs,h=>zep b l _ (fun t ht=>hs t (YaT _ ht)) (zdO (by rw [zbK];exact hs s YaV) _ _ h)
theorem zbq{l:#[31]}(h:okS l){b:Int}{r:List Int}(hr:r∈quoB b l):r.length=many l:=
 (zep b l #[35] (fun s hs=>(h.2.1 s hs).2.2) ⟨by unfold zeros;simp,fun r hr=>by rw [Ya6.mp hr];unfold zeros;simp⟩).2 r hr
theorem j6{l:#[31]}(h:okS l):1<=many l/\many l<=8:=by
 cases l with
 | nil=>have:=h.1.1;simp at this
 | cons a r=>exact(h.2.1 a YaV).2.1.1
theorem zhz(b:Int):∀ (l:#[31]) (p:List Int×List #[23]) (x:List Int) (r:List #[23]),p.2=x::r->∃ r',(runQ b l p).2=x::r':=by
 have hrep:∀ (sh:List Int) (k:Nat) (p:List Int×List #[23]) (x:List Int) (r:List #[23]),p.2=x::r->∃ r',(rep (zA sh) k p).2=x::r':=by
  intro sh k
  induction k with
  | zero=>intro p x r h;exact⟨r,h⟩
  | succ k ih=>intro p x r h;exact ih (zA sh p) x (r++[addL p.1 sh]) (by show p.2++[_]=_;rw [h];rfl)
 intro l
 induction l with
 | nil=>intro p x r h;exact⟨r,h⟩
 | cons s l ih=>
  intro p x r h;obtain⟨r',h'⟩:=hrep (shares b s.2) s.1.toNat p x r h;exact ih _ x r' h'
theorem zdj(b:Int)(l:#[31]):∃ r,quoB b l=zeros l::r:=zhz b l _ _ [] rfl
def Far(S:List Int)(n:Int):Prop:=0<=n/\(∀ x∈S,x<=n/\-x<=n)/\(n=0\/n∈S\/-n∈S)
theorem Far.le{S:List Int}{n m:Int}(h:Far S n)(h':Far S m):n<=m:=by
 rcases h.2.2 with z|z|z
 . rw [z];exact h'.1
 . exact(h'.2.1 n z).1
 . have:=(h'.2.1 (-n) z).2;omega
theorem Far.nil:Far [] 0:=⟨#[1],fun x h=>absurd h (by simp),.inl rfl⟩
def had1(b:Int)(h:List Int)(c:Int):List Int:=h.set c.toNat (h.getD c.toNat 0+b)
def hadN(b:Int)(n:Nat)(row:List Int):List Int:=row.foldl (had1 b) (List.replicate n 0)
theorem zjz(b:Int)(h:List Int)(c:Int):(had1 b h c).length=h.length:=by unfold had1;rw [YaN]
theorem J3(b:Int)(n:Nat)(row:List Int):(hadN b n row).length=n:=by
 have:∀ (row:List Int) (h:List Int),(row.foldl (had1 b) h).length=h.length:=by
  intro row
  induction row with
  | nil=>intro h;rfl
  | cons c r ih=>intro h;rw [List.foldl_cons,ih,zjz]
 unfold hadN;rw [this,Ybb]
theorem zji(b:Int)(h:List Int)(c:Int):had1 b (h.map (· * b)) c=(had1 1 h c).map (· * b):=by
 unfold had1;rw [List.map_set]
 congr 1
 rw [YaP,Ya0,YaP];cases h[c.toNat]? with
 | none=>simp
 | some x=>simp [WbG]
theorem zf2(b:Int)(n:Nat)(row:List Int):hadN b n row=(hadN 1 n row).map (· * b):=by
 have:∀ (row:List Int) (h:List Int),row.foldl (had1 b) (h.map (· * b))=(row.foldl (had1 1) h).map (· * b):=by
  intro row
  induction row with
  | nil=>intro h;rfl
  | cons c r ih=>intro h;rw [List.foldl_cons,List.foldl_cons,zji,ih]
 unfold hadN;rw [<-this]
 congr 1
 simp
theorem zdo(b:Int)(n:Nat)(row:List Int)(c:Int):hadN b n (row++[c])=had1 b (hadN b n row) c:=by unfold hadN;rw [WaV];rfl
def subL(a b:List Int):List Int:=(a.zip b).map fun p=>p.1 - p.2
def jl(b:Int)(n:Nat)(q:List #[23])(row:List Int)(t:Nat):List Int:=subL (hadN b n #[51]) (q.getD (t+1) [])
def JI(b:Int)(n:Nat)(q:List #[23])(row:List Int)(k:Nat):List #[23]:=(List.range k).map (jl b n q row)
theorem zkZ{b c:Int}{h x y:List Int}(e:x.map (· * c)=y.map (· * b)):(subL (h.map (· * b)) x).map (· * c)=(subL (h.map (· * c)) y).map (· * b):=by
 induction h generalizing x y with
 | nil=>simp [subL]
 | cons a h ih=>
  cases x with
  | nil=>
   cases y with
   | nil=>simp [subL]
   | cons _ _=>simp at e
  | cons p x=>
   cases y with
   | nil=>simp at e
   | cons q y=>
    simp only [Ya1,Wbg] at e;have:=ih e.2;simp only [subL,Ya1,List.zip_cons_cons,Wbg] at this ⊢;refine⟨?_,this⟩;rw [WbH,WbH,e.1,WaJ]
theorem ze4{a b:Int}(h:0<b):0<b/(Int.gcd a b:Int)/\Int.gcd (a/(Int.gcd a b:Int)) (b/(Int.gcd a b:Int))=1/\a/(Int.gcd a b:Int)*(Int.gcd a b:Int)=a/\b/(Int.gcd a b:Int)*(Int.gcd a b:Int)=b:=by
 have hg:0<Int.gcd a b:=Wad _ #[0]
 have h1:(Int.gcd a b:Int)∣a:=Wa7 a b;have h2:(Int.gcd a b:Int)∣b:=WaS a b;exact⟨Int.ediv_pos_of_pos_of_dvd h #[0] h2,Int.gcd_ediv_gcd_ediv_gcd hg,Yaw h1,Yaw h2⟩
def zbk(n:Nat)(T:Nat)(row:List Int):Prop:=row.length=T/\∀ c∈row,0<=c/\c<(n:Int)
theorem zhu(l:#[31])(s:Spell):zl (l++[s])=zl l*s.2.sum:=by unfold zl;rw [WaV];rfl
theorem zf1{α : Type}(f:α->α):∀ (n:Nat) (x:α),rep f (n+1) x=f (rep f n x)
 | 0,x=>rfl
 | n+1,x=>by show rep f (n+1) (f x)=f (rep f n (f x));exact zf1 f n (f x)
theorem zfB{α : Type}(xs:List α)(x:α):atI (xs++[x]) (-1)=some x:=by
 unfold atI ixN;rw [if_neg #[1],if_pos (by rw [YaS];simp;omega),YaS]
 have:(-1+((xs.length+[x].length:Nat):Int)).toNat=xs.length:=#[6]
 rw [this]
 simp
theorem zcT{xs:List Int}{i:Nat}(h:i<xs.length):atI (xs.map PyData.int) (0+(i:Int))=some (PyData.int xs[i]):=by
 rw [WbC];have:(xs.map PyData.int)[i]?=some (PyData.int xs[i]):=by rw [Ya0,YaQ h];rfl
 exact jt this
theorem c64:Jz 10 64:=powB (k:=4) (by unfold Bits;decide) #[1] #[1]
abbrev Rat2:=Int×Int
def dQ(r:Rat2):D:=.tuple [.int r.1,.int r.2]
def dP(p:Rat2×Rat2):D:=.tuple [dQ p.1,dQ p.2]
def dPs(l:List #[39]):D:=.list (l.map dP)
def okQ(r:Rat2):Prop:=0<r.2/\Bits 1200 r.1/\Bits 1200 r.2
def inQ(r:Rat2):Prop:=0<=r.1/\r.1<=10*r.2
def okB(n:Nat)(l:List #[39]):Prop:=l.length=n/\∀ p∈l,inQ p.1/\inQ p.2
def zr(b:Int)(r:Rat2):Int:=r.1*b/r.2
theorem zbE{rows:List #[23]}{i:Nat}(h:i<rows.length):atI (rows.map dI) (i:Int)=some (PyData.list (rows[i].map PyData.int)):=by
 have:(rows.map dI)[i]?=some (PyData.list (rows[i].map PyData.int)):=by rw [Ya0,YaQ h];rfl
 exact jt this
theorem Zb{xs:List Int}{i:Int}(h0:0<=i)(h:i<xs.length):atI (xs.map PyData.int) i=some (PyData.int (xs.getD i.toNat 0)):=by
 obtain⟨x,h1,_,h2⟩:=zcU (xs:=xs) h0 h;rw [Zd,h1,YaP,h2];rfl
def jL(p:Int×Int):D:=.tuple [.int p.1,.int p.2]
def zx(b:Int)(l:List #[39]):List (Int×Int):=l.map fun p=>(zr b p.1,zr b p.2)
theorem zem{ws:List Int}(h:∀ w∈ws,0<=w){w:Int}(hw:w∈ws):w<=ws.sum:=by
 induction ws with
 | nil=>cases hw
 | cons a r ih=>
  rw [List.sum_cons];have h2:=zaP (ws:=r) fun w hw=>h w (YaT _ hw)
  have h3:=h a YaV
  rcases Wbm.mp hw with rfl|hw
  . omega
  . have:=ih (fun w hw=>h w (YaT _ hw)) hw
    omega
theorem zj2{b:Int}{ws:List Int}(h:okW ws)(hb:0<=b){x:Int}(hx:x∈shares b ws):x<=b:=by
 unfold shares at hx;obtain⟨w,hw,rfl⟩:=Ya7.mp hx;have h1:=zem (fun w hw=>(h.2.1 w hw).1) hw
 refine WaC (jF h) ?_
 rw [WbB w b];exact Int.mul_le_mul_of_nonneg_left h1 hb
def leP(b:Int)(p:List Int×List #[23]):Prop:=1<=p.2.length/\(∀ x∈p.1,x<=((p.2.length:Int) - 1)*b)/\∀ r∈p.2,∀ x∈r,x<=((p.2.length:Int) - 1)*b
theorem zmH{b:Int}{sh:List Int}(hb:0<=b)(hs:∀ x∈sh,x<=b){p:List Int×List #[23]}(h:leP b p):leP b (zA sh p):=by
 obtain⟨h1,h2,h3⟩:=h;have e:(((zA sh p).2.length:Nat):Int) - 1=p.2.length:=by show(((p.2++[_]).length:Nat):Int) - 1=_;rw [YaS];simp
 have hm:((p.2.length:Int) - 1)*b+b=(p.2.length:Int)*b:=by rw [WbH,WbI];omega
 have ha:∀ x∈addL p.1 sh,x<=(p.2.length:Int)*b:=fun x hx=>by
  unfold addL at hx;obtain⟨q,hq,rfl⟩:=Ya7.mp hx;obtain⟨q1,q2⟩:=Wbc (a:=q.1) (b:=q.2) hq;have:=h2 _ q1;have:=hs _ q2
  omega
 refine⟨by show 1<=(p.2++[_]).length;rw [YaS];simp,by rw [e];exact ha,fun r hr x hx=>?_⟩
 rw [e]
 rcases Ya3.mp hr with z|z
 . have:=h3 r z x hx;omega
 . rw [Ya6.mp z] at hx;exact ha x hx
theorem zfq{b:Int}{sh:List Int}(hb:0<=b)(hs:∀ x∈sh,x<=b):∀ (n:Nat) {p:List Int×List #[23]},leP b p->leP b (rep (zA sh) n p)
 | 0,_,h=>h
 | n+1,_,h=>zfq hb hs n (zmH hb hs h)
theorem zdV{b:Int}(hb:0<=b):∀ (l:#[31]) {p:List Int×List #[23]},(∀ s∈l,okW s.2)->leP b p->leP b (runQ b l p)
 | [],_,_,h=>h
 | s::l,p,hl,h=>zdV hb l (p:=rep (zA (shares b s.2)) s.1.toNat p) (fun t ht=>hl t (YaT _ ht)) (zfq hb (fun x hx=>zj2 (hl s YaV) hb hx) _ h)
theorem ZJ{l:#[31]}(h:okS l){b:Int}(hb:0<b):∀ r∈quoB b l,∀ x∈r,x<=tot l*b:=fun r hr x hx=>by
 have:=zdV (b:=b) #[0] l (p:=#[35]) (fun s hs=>(h.2.1 s hs).2.1) ⟨by simp,fun x hx=>by
  have:x=0:=Wan hx;rw [this];simp,fun r hr x hx=>by
  rw [Ya6.mp hr] at hx;have:x=0:=Wan hx;rw [this];simp⟩
 have h2:=this.2.2 r hr x hx;have h3:=ZF h b;unfold quoB at h3;have e:(((runQ b l #[35]).2.length:Nat):Int) - 1=tot l:=#[0]
 rw [e] at h2;exact h2
def nnP(p:List Int×List #[23]):Prop:=(∀ x∈p.1,0<=x)/\∀ r∈p.2,∀ x∈r,0<=x
theorem zij{sh:List Int}(hs:∀ x∈sh,0<=x){p:List Int×List #[23]}(h:nnP p):nnP (zA sh p):=by
 have ha:∀ x∈addL p.1 sh,0<=x:=fun x hx=>by
  unfold addL at hx;obtain⟨q,hq,rfl⟩:=Ya7.mp hx;obtain⟨q1,q2⟩:=Wbc (a:=q.1) (b:=q.2) hq;have:=h.1 _ q1;have:=hs _ q2
  omega
 refine⟨ha,fun r hr x hx=>?_⟩
 rcases Ya3.mp hr with z|z
 . exact h.2 r z x hx
 . rw [Ya6.mp z] at hx;exact ha x hx
theorem zfI{sh:List Int}(hs:∀ x∈sh,0<=x):∀ (n:Nat) {p:List Int×List #[23]},nnP p->nnP (rep (zA sh) n p)
 | 0,_,h=>h
 | n+1,_,h=>zfI hs n (zij hs h)
theorem zdR{b:Int}(hb:0<=b):∀ (l:#[31]) {p:List Int×List #[23]},(∀ s∈l,okW s.2)->nnP p->nnP (runQ b l p)
 | [],_,_,h=>h
 | s :: l, p, hl, h => zdR hb l (p := rep (zA (shares b s.2)) s.1.toNat p) (fun t ht => hl t (YaT _ ht)) (zfI (fun x hx => by
  unfold shares at hx;obtain⟨w,hw,rfl⟩:=Ya7.mp hx;have hok:=hl s YaV;exact Wbh (YaK (hok.2.1 w hw).1 hb) (by have:=jF hok;omega)) _ h)
theorem zkm{l:#[31]}(h:okS l){b:Int}(hb:0<=b):∀ r∈quoB b l,∀ x∈r,0<=x:=
 (zdR hb l (p:=#[35]) (fun s hs=>(h.2.1 s hs).2.1) ⟨fun x hx=>by rw [Wan hx];decide,fun r hr x hx=>by
  rw [Ya6.mp hr] at hx;rw [Wan hx];decide⟩).2
theorem zck{g:TG3}{tb:TS3}{A:Ends3}{f:Bool}{enc:Nat->D}{n:Nat}(P:Nat->Env3->Prop)(s:∀ k ρ,k<n->P k ρ->∀ W:Env3->Prop,(∀ ρ',P (k+1) ρ'->W ρ')->g f (enc k) ρ fun ρ'=>tb { A with nx:=W,ct:=W,bk:=A.nx } ρ')(e:∀ ρ,P n ρ->A.nx ρ){ρ : Env3}(h:P 0 ρ):forL g tb A f ((List.range n).map enc) ρ:=by
 refine je enc (List.range n) (fun done ρ=>P done.length ρ) (fun done x rest ρ hd hp W hW=>?_) (fun ρ hp=>e ρ (by rw [YaG] at hp;exact hp)) h
 have hx:x=done.length:=by
  have h1:(List.range n)[done.length]?=some x:=by rw [hd];simp
  have h2:done.length<n:=by have:=congrArg List.length hd;simp at this;omega
  rw [Yax h2] at h1;exact(Wba h1).symm
 subst hx;have h2:done.length<n:=by have:=congrArg List.length hd;simp at this;omega
 exact s done.length ρ h2 hp W fun ρ' hp'=>hW ρ' (by rw [YaS];exact hp')
def jP(p:Nat->Bool):Nat->Nat->Nat
 | i,0=>i
 | i,m+1=>if p i=true then i else jP p (i+1) m
def zk(n:Nat)(p:Nat->Bool):Nat:=jP p 1 (n - 1)
theorem zgY(p:Nat->Bool):∀ (m i:Nat),i<=jP p i m/\jP p i m<=i+m/\(∀ t,i<=t->t<jP p i m->p t=false)/\(jP p i m<i+m->p (jP p i m)=true):=by
 intro m
 induction m with
 | zero=>intro i;exact⟨YaY _,YaY _,fun t h1 h2=>absurd h2 (by show ¬t<i;omega),fun h=>absurd h (by show ¬i<i+0;omega)⟩
 | succ m ih=>
  intro i;unfold jP
  by_cases h:p i=true
  . rw [if_pos h];exact⟨YaY _,#[0],fun t h1 h2=>absurd h2 #[0],fun _=>h⟩
  . rw [if_neg h]
    obtain⟨a1,a2,a3,a4⟩:=ih (i+1);refine⟨#[0],#[0],fun t h1 h2=>?_,fun hh=>a4 #[0]⟩
    by_cases e:t=i
    . subst e;simpa using h
    . exact a3 t #[0] h2
theorem z9{n:Nat}(hn:1<=n)(p:Nat->Bool):1<=zk n p/\zk n p<=n/\(∀ t,1<=t->t<zk n p->p t=false)/\(zk n p<n->p (zk n p)=true):=by
 obtain⟨a1,a2,a3,a4⟩:=zgY p (n - 1) 1;exact⟨a1,by unfold zk;omega,a3,fun h=>a4 (by unfold zk at h;omega)⟩
theorem zc0{n:Nat}(hn:1<=n){p:Nat->Bool}{r:Nat}(h1:1<=r)(h2:r<=n)(h3:∀ t,1<=t->t<r->p t=false)(h4:r<n->p r=true):zk n p=r:=by
 obtain⟨a1,a2,a3,a4⟩:=z9 hn p
 rcases Nat.lt_trichotomy (zk n p) r with z|z|z
 . have:=h3 _ a1 z;rw [a4 #[0]] at this;cases this
 . exact z
 . have:=a3 _ h1 z;rw [h4 #[0]] at this;cases this
theorem zgj{n:Nat}(hn:1<=n){p q:Nat->Bool}(h:∀ t,1<=t->t<n->p t=q t):zk n p=zk n q:=by
 obtain⟨a1,a2,a3,a4⟩:=z9 hn q;exact zc0 hn a1 a2 (fun t h1 h2=>by rw [h t h1 #[0]];exact a3 t h1 h2) fun hh=>by rw [h _ a1 hh];exact a4 hh
abbrev Win:=Int×Int×Int×Option Int
def dO:Option Int->D
 | none=>.none
 | some i=>.int i
theorem zjU(f:Bool)(o:Option Int):isNone (Cl.sh f (dO o))=o.isNone:=by cases o<;>rfl
def dW(w:Win):D:=.tuple [.int w.1,.int w.2.1,.int w.2.2.1,dO w.2.2.2]
def winP(n:Nat)(e l:Nat->Bool):Int×Option Int:=(zk n e,if zk n l=n then none else some (zk n l:Nat))
def zS(n:Nat)(w:Int×Option Int):Prop:=w.1<n\/w.2≠none
def IsW(n:Nat)(k:Int)(W:Int->Int×Option Int):Int->List Win->Prop
 | j,[]=>¬zS n (W j)
 | j,w::r=>zS n (W j)/\w=(k,j,(W j).1,(W j).2)/\IsW n k W (j+1) r
theorem IsW.uniq{n:Nat}{k:Int}{W W':Int->Int×Option Int}:∀ {ws ws':List Win} {j:Int},(∀ i,j<=i->W i=W' i)->IsW n k W j ws->IsW n k W' j ws'->ws=ws'
 | [],[],_,_,_,_=>rfl
 | [], w :: r, j, e, h, h' => by
  have h1:¬zS n (W j):=h;have h2:=h'.1;rw [<-e j (WbJ j)] at h2;exact absurd h2 h1
 | w :: r, [], j, e, h, h' => by
  have h1:¬zS n (W' j):=h';have h2:=h.1;rw [e j (WbJ j)] at h2;exact absurd h2 h1
 | w :: r, w' :: r', j, e, h, h' => by
  have e1:=h.2.1;have e2:=h'.2.1;rw [<-e j (WbJ j)] at e2;rw [e1,e2,IsW.uniq (fun i hi=>e i #[0]) h.2.2 h'.2.2]
theorem IsW.len{n:Nat}{k:Int}{W:Int->Int×Option Int}{M:Int}(hM:∀ i,zS n (W i)->i<=M):∀ {ws:List Win} {j:Int},IsW n k W j ws->j<=M+1->(ws.length:Int)<=M+1 - j
 | [],j,_,hj=>by simp;omega
 | w :: r, j, h, hj => by
  have h1:=hM j h.1;have:=IsW.len hM h.2.2 #[0]
  rw [List.length_cons];omega
def zd(q:List #[23])(k:Nat):List Int:=q.map fun r=>r.getD k 0
def winB(b:Int)(path:List Int)(room:Int×Int)(j:Int):Int×Option Int:=winP path.length (fun t=>decide (j*b - room.2<=path.getD t 0)) (fun t=>decide ((j - 1)*b+room.1+1<=path.getD t 0))
theorem zbn{b:Int}{path:List Int}{room:Int×Int}{M:Int}(hb:0<b)(h1:1<=path.length)(hp:∀ t,path.getD t 0+room.2<=M*b)(hr:0<=room.2)(hr1:0<=room.1)(j:Int)(h:zS path.length (winB b path room j)):j<=M+1:=by
 have key:∀ x:Int,x*b<=M*b+b->x<=M+1:=fun x hx=>by
  have:x*b<=(M+1)*b:=by rw [WbG,WbI];exact hx
  exact YaF this hb
 rcases h with h|h
 . obtain⟨_,_,_,a4⟩:=z9 h1 (fun t=>decide (j*b - room.2<=path.getD t 0))
   have := of_decide_eq_true (a4 (by have : ((zk path.length fun t => decide (j * b - room.2 <= path.getD t 0) : Nat) : Int) < path.length := h
                                     omega))
   have h2:=hp (zk path.length fun t=>decide (j*b - room.2<=path.getD t 0))
   exact key j #[0]
 . obtain⟨_,a2,_,a4⟩:=z9 h1 (fun t=>decide ((j - 1)*b+room.1+1<=path.getD t 0))
   have hne:zk path.length (fun t=>decide ((j - 1)*b+room.1+1<=path.getD t 0))≠path.length:=fun z=>h (if_pos z)
   have:=of_decide_eq_true (a4 #[0])
   have h2:=hp (zk path.length fun t=>decide ((j - 1)*b+room.1+1<=path.getD t 0))
   have h3:(j - 1)*b=j*b - b:=by rw [WbH,WbI]
   exact key j #[0]
def zcB(L:List #[23])(R:List (Int×Int)):Prop:=∀ ld∈L,∀ (i:Nat) (x:Int) (p:Int×Int),ld[i]?=some x->R[i]?=some p->-p.1<=x/\x<=p.2
def ldF(b:Int)(n:Nat)(q:List #[23])(row:List Int)(t k:Nat):Int:=(jl b n q row t).getD k 0
theorem zd8{b c x y u v:Int}(hb:0<b)(hc:0<c)(hu:0<u)(e:x*c=y*b):x<=v*b/u↔y*u<=v*c:=by
 rw [Waz hu]
 constructor
 . intro h
   have h1:=Ybe h (show 0<=c by omega)
   have e1:x*u*c=y*u*b:=by rw [WaJ,e,WaJ]
   have e2:v*b*c=v*c*b:=by ac_rfl
   rw [e1,e2] at h1;exact YaF h1 hb
 . intro h
   have h1:=Ybe h (show 0<=b by omega)
   have e1:x*u*c=y*u*b:=by rw [WaJ,e,WaJ]
   have e2:v*b*c=v*c*b:=by ac_rfl
   rw [<-e1,<-e2] at h1;exact YaF h1 hc
theorem zll{b c:Int}{n:Nat}{q q':List #[23]}{row:List Int}(e:q.map (List.map (· * c))=q'.map (List.map (· * b)))(t k:Nat):ldF b n q row t k*c=ldF c n q' row t k*b:=by
 have h:(jl b n q row t).map (· * c)=(jl c n q' row t).map (· * b):=by
  unfold jl;rw [zf2 b,zf2 c]
  apply zkZ
  have h:=congrArg (fun z=>z.getD (t+1) []) e
  simp only [YaP,Ya0] at h ⊢;cases h1:q[t+1]? <;> cases h2:q'[t+1]? <;> simp [h1,h2] at h ⊢
  . exact h
  . exact h
  . exact h
 have h':=congrArg (fun z=>z.getD k 0) h
 unfold ldF;simp only [YaP,Ya0] at h' ⊢;cases h1:(jl b n q row t)[k]? <;> cases h2:(jl c n q' row t)[k]? <;> simp [h1,h2] at h' ⊢
 . exact h'
 . exact h'
 . exact h'
theorem zm5{α β : Type}(f:α->β){xs:List α}{i:Nat}(h:i<xs.length):atI (xs.map f) (0+(i:Int))=some (f xs[i]):=by
 rw [WbC];exact jt (by rw [Ya0,YaQ h];rfl)
theorem IsW.mem{n:Nat}{k:Int}{W:Int->Int×Option Int}{w:Win}:∀ {ws:List Win} {j:Int},IsW n k W j ws->w∈ws->∃ i,j<=i/\w=(k,i,(W i).1,(W i).2)
 | [],j,_,hw=>by cases hw
 | v :: r, j, h, hw => by
  rcases Wbm.mp hw with z|z
  . exact⟨j,WbJ _,by rw [z];exact h.2.1⟩
  . obtain⟨i,a,b⟩:=IsW.mem h.2.2 z
    exact⟨i,#[0],b⟩
theorem zhc{W:List (List Win)}{w:Win}(h:w∈W.flatten):∃ k,k<W.length/\w∈W.getD k []:=by
 obtain⟨l,hl,hw⟩:=List.mem_flatten.mp h;obtain⟨k,hk,e⟩:=Yam hl;refine⟨k,hk,?_⟩;rw [YaP,YaQ hk];show w∈W[k];rw [e];exact hw
theorem zey{W:List (List Win)}{w:Win}{k:Nat}(hk:k<W.length)(h:w∈W.getD k []):w∈W.flatten:=by
 rw [YaP,YaQ hk] at h;exact List.mem_flatten.mpr ⟨W[k],Ya4 hk,h⟩
def tk(p:Nat->Bool)(t:Nat):List Nat:=(List.range t).filter p
theorem Jk(p:Nat->Bool)(t:Nat):tk p (t+1)=tk p t++if p t=true then [t] else []:=by
 unfold tk;rw [List.range_succ,List.filter_append]
 congr 1
 cases h:p t<;>simp [h]
theorem zcs(p:Nat->Bool){s t:Nat}(h:s<=t):∃ r,tk p t=tk p s++r/\∀ x∈r,s<=x:=by
 induction t with
 | zero=>cases Nat.le_zero.mp h;exact⟨[],by simp,fun x h=>by cases h⟩
 | succ t ih=>
  by_cases e:s=t+1
  . subst e;exact⟨[],by simp,fun x h=>by cases h⟩
  . obtain⟨r,h1,h2⟩:=ih #[0]
    refine⟨r++if p t=true then [t] else [],by rw [Jk,h1,Yag],fun x hx=>?_⟩
    rcases Ya3.mp hx with z|z
    . exact h2 x z
    . split at z
      . rw [Ya6.mp z];omega
      . cases z
theorem zaC(p:Nat->Bool){s t:Nat}(h:s<=t):(tk p s).length<=(tk p t).length:=by
 obtain⟨r,h1,_⟩:=zcs p h;rw [h1,YaS];omega
theorem zme(p:Nat->Bool){t x:Nat}(h:x∈tk p t):x<t:=Yba.mp (Ya9.mp h).1
theorem Ze(p:Nat->Bool):∀ {t j i:Nat},(tk p t)[j]?=some i->i<t/\(tk p i).length=j/\(tk p (i+1)).length=j+1
 | 0,j,i,h=>by simp [tk] at h
 | t + 1, j, i, h => by
  rw [Jk] at h
  by_cases hj:j<(tk p t).length
  . rw [Yab hj] at h
    obtain⟨a,b⟩:=Ze p h;exact⟨#[0],b⟩
  . rw [Yae #[0]] at h
    split at h
    . rename_i hp
      cases e:j - (tk p t).length with
      | zero=>
       rw [e] at h;cases h;have ej:(tk p t).length=j:=#[0]
       exact⟨#[0],ej,by rw [Jk,if_pos hp,YaS,ej];rfl⟩
      | succ m=>rw [e] at h;simp at h
    . simp at h
theorem zhM(p:Nat->Bool){s t j:Nat}(h:s<=t)(hj:j<(tk p s).length):∃ i,i<s/\(tk p t)[j]?=some i:=by
 obtain⟨r,h1,_⟩:=zcs p h;refine⟨(tk p s)[j],zme p (Ya4 hj),?_⟩;rw [h1,Yab hj,YaQ hj]
def okV(pos:List Nat)(w:Win):Prop:=if w.2.1<=pos.length then w.2.2.1<=((pos.getD (w.2.1 - 1).toNat 0+1:Nat):Int)/\∀ x,w.2.2.2=some x->((pos.getD (w.2.1 - 1).toNat 0+1:Nat):Int)<=x else w.2.2.2=none
theorem IsW.at{n:Nat}{k:Int}{W:Int->Int×Option Int}:∀ {ws:List Win} {j:Int} {i:Nat},IsW n k W j ws->i<ws.length->ws[i]?=some (k,j+i,(W (j+i)).1,(W (j+i)).2)
 | [],j,i,_,h=>by simp at h
 | v :: r, j, 0, h, _ => by
  rw [h.2.1];show some _=some _;rw [show j+((0:Nat):Int)=j by omega]
 | v :: r, j, i + 1, h, hi => by
  have:=IsW.at (i:=i) h.2.2 (by simpa using hi)
  rw [List.getElem?_cons_succ,this,show j+1+(i:Int)=j+((i+1:Nat):Int) by omega]
theorem IsW.long{n:Nat}{k:Int}{W:Int->Int×Option Int}{m:Nat}:∀ {ws:List Win} {j:Int},IsW n k W j ws->(∀ x:Nat,x<m->zS n (W (j+x)))->m<=ws.length
 | [], j, h, ht => by
  cases m with
  | zero=>exact YaY _
  | succ m=>exact absurd (by have:=ht 0 #[0];rwa [show j+((0:Nat):Int)=j by omega] at this) h
 | v :: r, j, h, ht => by
  cases m with
  | zero=>exact WbF _
  | succ m=>
   have:=IsW.long (m:=m) h.2.2 fun x hx=>by
    have:=ht (x+1) #[0]
    rwa [show j+((x+1:Nat):Int)=j+1+(x:Int) by omega] at this
   rw [List.length_cons];omega
theorem zbL{n:Nat}(hn:1<=n){p:Nat->Bool}{t:Nat}(h1:1<=t)(h:p t=true):zk n p<=t:=by
 obtain⟨a1,a2,a3,a4⟩:=z9 hn p
 by_cases z:t<zk n p
 . rw [a3 t h1 z] at h;cases h
 . omega
theorem zjd{b:Int}(hb:0<b){path:List Int}{T:Nat}(hl:path.length=T+1)(mono:∀ s t,s<=t->t<=T->path.getD s 0<=path.getD t 0)(h0:0<=path.getD 0 0){r1 r2:Int}(hr1:0<=r1)(hr2:0<=r2)(p:Nat->Bool){ws:List Win}{k:Int}(hW:IsW (T+1) k (winB b path (r1,r2)) 1 ws) :
 (∀ t,t<T->-r1<=((tk p (t+1)).length:Int)*b - path.getD (t+1) 0/\((tk p (t+1)).length:Int)*b - path.getD (t+1) 0<=r2)↔((∀ w∈ws,okV (tk p T) w)/\(tk p T).length<=ws.length):=by
 have hn:1<=T+1:=#[0]
 have wo:∀ j,(winB b path (r1,r2) j).1=((zk (T+1) (fun t=>decide (j*b - r2<=path.getD t 0)):Nat):Int):=fun j=>by unfold winB winP;rw [hl]
 have wl:∀ j,(winB b path (r1,r2) j).2=if zk (T+1) (fun t=>decide #[63])=T+1 then none else some ((zk (T+1) (fun t=>decide #[63]):Nat):Int):=fun j=>by unfold winB winP;rw [hl]
 have mulm:∀ x y:Int,x<=y->x*b<=y*b:=fun x y h=>Ybe h #[0]
 constructor
 . intro hk
   have op:∀ (j i:Nat),(tk p T)[j]?=some i->zk (T+1) (fun t=>decide (((j:Int)+1)*b - r2<=path.getD t 0))<=i+1:=fun j i h=>by
    obtain⟨a1,a2,a3⟩:=Ze p h;have:=(hk i a1).2;rw [a3] at this;refine zbL hn #[0] (decide_eq_true ?_)
    have e:((j+1:Nat):Int)*b=((j:Int)+1)*b:=by rw [Int.natCast_succ]
    omega
   have la:∀ (j:Int),1<=j->zk (T+1) (fun t=>decide #[63])≠T+1->j<=((tk p (zk (T+1) (fun t=>decide #[63]))).length:Int):=fun j hj hne=>by
    obtain⟨a1,a2,a3,a4⟩:=z9 hn (fun t=>decide #[63])
    generalize zk (T+1) (fun t=>decide #[63])=f at *
    have h1:=of_decide_eq_true (a4 #[0])
    have h2:=(hk (f - 1) #[0]).1
    rw [show f - 1+1=f by omega] at h2
    by_cases z:j<=((tk p f).length:Int)
    . exact z
    . have:=mulm ((tk p f).length:Int) (j - 1) #[0]
      omega
   refine⟨fun w hw=>?_,?_⟩
   . obtain⟨j,hj,rfl⟩:=hW.mem hw
     unfold okV;dsimp only
     by_cases hc:j<=((tk p T).length:Int)
     . rw [if_pos hc]
       have hlt:(j - 1).toNat<(tk p T).length:=#[0]
       have hg:(tk p T)[(j - 1).toNat]?=some (tk p T)[(j - 1).toNat]:=YaQ hlt;have hgd:(tk p T).getD (j - 1).toNat 0=(tk p T)[(j - 1).toNat]:=by rw [YaP,hg];rfl
       rw [hgd];generalize (tk p T)[(j - 1).toNat]=i at hg;obtain⟨a1,a2,a3⟩:=Ze p hg;have ej:(((j - 1).toNat:Nat):Int)+1=j:=#[0]
       refine⟨?_,fun x hx=>?_⟩
       . have:=op _ _ hg
         rw [ej] at this;rw [wo];omega
       . rw [wl] at hx
         split at hx
         . cases hx
         . rename_i hne
           have:=la j hj hne;cases hx;generalize zk (T+1) (fun t=>decide #[63])=f at *
           by_cases z:f<i+1
           . have:=zaC p (show f<=i by omega)
             omega
           . omega
     . rw [if_neg hc,wl]
       split
       . rfl
       . rename_i hne
         have h1:=la j hj hne;obtain⟨_,a2,_,_⟩:=z9 hn (fun t=>decide #[63])
         have:=zaC p (show zk (T+1) (fun t=>decide #[63])<=T by omega)
         omega
   . refine hW.long fun x hx=>.inl ?_
     have hg:(tk p T)[x]?=some (tk p T)[x]:=YaQ hx;have h1:=op _ _ hg;have h2:=(Ze p hg).1;rw [wo,show(1:Int)+(x:Int)=(x:Int)+1 by omega]
     omega
 . rintro⟨hv,hm⟩ t ht
   have wat:∀ i:Nat,i<ws.length->okV (tk p T) (k,1+(i:Int),(winB b path (r1,r2) (1+(i:Int))).1,(winB b path (r1,r2) (1+(i:Int))).2):=fun i hi=>hv _ (Yah (hW.at hi))
   constructor
   . -- not too far behind
     by_cases z:-r1<=((tk p (t+1)).length:Int)*b - path.getD (t+1) 0
     . exact z
     . exfalso
       have hlate:∀ x:Nat,x<=(tk p (t+1)).length->zk (T+1) (fun s=>decide (((1+(x:Int)) - 1)*b+r1+1<=path.getD s 0))<=t+1:=fun x hx=>by
        refine zbL hn #[0] (decide_eq_true ?_)
        have:=mulm (1+(x:Int) - 1) ((tk p (t+1)).length:Int) #[0]
        omega
       have hlen:(tk p (t+1)).length+1<=ws.length:=hW.long fun x hx=>.inr (by
        rw [wl,if_neg (by have:=hlate x #[0];omega)];simp)
       have hok:=wat (tk p (t+1)).length #[0]
       have h1:=hlate (tk p (t+1)).length (YaY _);unfold okV at hok;dsimp only at hok
       by_cases hc:1+((tk p (t+1)).length:Int)<=((tk p T).length:Int)
       . rw [if_pos hc,wl,if_neg #[0]] at hok
         have h2:=hok.2 _ rfl;have e:(1+((tk p (t+1)).length:Int) - 1).toNat=(tk p (t+1)).length:=#[0]
         rw [e] at h2;have hlt:(tk p (t+1)).length<(tk p T).length:=#[0]
         have hg:(tk p T)[(tk p (t+1)).length]?=some (tk p T)[(tk p (t+1)).length]:=YaQ hlt;have hgd:(tk p T).getD (tk p (t+1)).length 0=(tk p T)[(tk p (t+1)).length]:=by rw [YaP,hg];rfl
         rw [hgd] at h2;generalize (tk p T)[(tk p (t+1)).length]=i at hg h2;obtain⟨a1,a2,a3⟩:=Ze p hg;have:=zaC p (show i+1<=t+1 by omega)
         omega
       . rw [if_neg hc,wl,if_neg #[0]] at hok
         cases hok
   . -- not too far ahead
     by_cases hz:(tk p (t+1)).length=0
     . have:=mono 0 (t+1) #[0] #[0]
       rw [hz];have e:((0:Nat):Int)*b=0:=by simp
       omega
     . obtain⟨i,hi,hg⟩:=zhM p (s:=t+1) (t:=T) (j:=(tk p (t+1)).length - 1) #[0] #[0]
       have hle:=zaC p (show t+1<=T by omega)
       have hok:=wat ((tk p (t+1)).length - 1) #[0]
       unfold okV at hok;dsimp only at hok;rw [if_pos #[0]] at hok
       have e:(1+(((tk p (t+1)).length - 1:Nat):Int) - 1).toNat=(tk p (t+1)).length - 1:=#[0]
       have hgd:(tk p T).getD ((tk p (t+1)).length - 1) 0=i:=by rw [YaP,hg];rfl
       rw [e,hgd,wo] at hok;have e2:1+(((tk p (t+1)).length - 1:Nat):Int)=((tk p (t+1)).length:Int):=#[0]
       rw [e2] at hok;obtain⟨a1,a2,a3,a4⟩:=z9 hn (fun s=>decide (((tk p (t+1)).length:Int)*b - r2<=path.getD s 0))
       have h1:=of_decide_eq_true (a4 #[0])
       have h2:=mono (zk (T+1) (fun s=>decide (((tk p (t+1)).length:Int)*b - r2<=path.getD s 0))) (t+1) #[0] #[0]
       omega
def moP(n:Nat)(p:List Int×List #[23]):Prop:=p.1.length=n/\∀ k,(∀ i j,i<=j->j<p.2.length->(p.2.getD i []).getD k 0<=(p.2.getD j []).getD k 0)/\∀ i,i<p.2.length->(p.2.getD i []).getD k 0<=p.1.getD k 0
theorem zhn{a sh:List Int}(hl:sh.length=a.length)(hs:∀ x∈sh,0<=x)(k:Nat):a.getD k 0<=(addL a sh).getD k 0:=by
 have hal:(addL a sh).length=a.length:=zbz hl.symm
 by_cases hk:k<a.length
 . have hz:(a.zip sh)[k]?=some (a[k],sh[k]'(by omega)):=Wak.mpr ⟨YaQ hk,YaQ #[0]⟩
   have h1:(addL a sh).getD k 0=a[k]+sh[k]'(by omega):=by
    unfold addL;rw [YaP,Ya0,hz];rfl
   have h2:a.getD k 0=a[k]:=by rw [YaP,YaQ hk];rfl
   have h3:=hs _ (Ya4 (show k<sh.length by omega))
   rw [h1,h2];omega
 . have h1:a.getD k 0=0:=by rw [YaP,WaB #[0]];rfl
   have h2:(addL a sh).getD k 0=0:=by rw [YaP,WaB #[0]];rfl
   omega
theorem zhB{α : Type}{l:List α}{x d:α}{i:Nat}:(l++[x]).getD i d=if i<l.length then l.getD i d else if i=l.length then x else d:=by
 rw [YaP,YaP]
 by_cases h:i<l.length
 . rw [if_pos h,Yab h]
 . rw [if_neg h,Yae #[0]]
   by_cases e:i=l.length
   . subst e;simp
   . rw [if_neg e,WaB #[6]];rfl
theorem zhG{n:Nat}{sh:List Int}(hl:sh.length=n)(hs:∀ x∈sh,0<=x){p:List Int×List #[23]}(h:moP n p):moP n (zA sh p):=by
 have ha:=zhn (a:=p.1) (by rw [hl,h.1]) hs
 refine⟨by show(addL p.1 sh).length=n;rw [zbz (by rw [hl,h.1]),h.1],fun k=>?_⟩
 obtain⟨h1,h2⟩:=h.2 k;have hlen:(zA sh p).2.length=p.2.length+1:=by show(p.2++[_]).length=_;rw [YaS];rfl
 have hget:∀ i,i<=p.2.length->((zA sh p).2.getD i []).getD k 0=if i<p.2.length then(p.2.getD i []).getD k 0 else(addL p.1 sh).getD k 0:=fun i hi=>by
  show((p.2++[addL p.1 sh]).getD i []).getD k 0=_
  rw [zhB]
  by_cases z:i<p.2.length
  . rw [if_pos z,if_pos z]
  . rw [if_neg z,if_neg z,if_pos #[0]]
 have hk:=ha k;refine⟨fun i j hij hj=>?_,fun i hi=>?_⟩
 . rw [hlen] at hj
   rw [hget i #[0],hget j #[0]]
   by_cases z:j<p.2.length
   . rw [if_pos z,if_pos #[0]];exact h1 i j hij z
   . rw [if_neg z]
     by_cases y:i<p.2.length
     . rw [if_pos y];have:=h2 i y;omega
     . rw [if_neg y];exact WbJ _
 . rw [hlen] at hi
   rw [hget i #[0]]
   show _<=(addL p.1 sh).getD k 0
   by_cases y:i<p.2.length
   . rw [if_pos y];have:=h2 i y;omega
   . rw [if_neg y];exact WbJ _
theorem zfF{n:Nat}{sh:List Int}(hl:sh.length=n)(hs:∀ x∈sh,0<=x):∀ (m:Nat) {p:List Int×List #[23]},moP n p->moP n (rep (zA sh) m p)
 | 0,_,h=>h
 | m+1,_,h=>zfF hl hs m (zhG hl hs h)
theorem zdI{n:Nat}{b:Int}(hb:0<=b):∀ (l:#[31]) {p:List Int×List #[23]},(∀ s∈l,okW s.2/\s.2.length=n)->moP n p->moP n (runQ b l p)
 | [],_,_,h=>h
 | s :: l, p, hl, h => zdI hb l (p := rep (zA (shares b s.2)) s.1.toNat p) (fun t ht => hl t (YaT _ ht)) (zfF (by rw [zbK]; exact (hl s YaV).2) (fun x hx => by
  unfold shares at hx;obtain⟨w,hw,rfl⟩:=Ya7.mp hx;have hok:=(hl s YaV).1;exact Wbh (YaK (hok.2.1 w hw).1 hb) (by have:=jF hok;omega)) _ h)
theorem zaU(q:List #[23])(k s:Nat):(zd q k).getD s 0=(q.getD s []).getD k 0:=by
 unfold zd;simp only [YaP,Ya0];cases q[s]? <;> simp
theorem zfe{l:#[31]}(h:okS l){b:Int}(hb:0<=b)(k s t:Nat)(hst:s<=t)(ht:t<(quoB b l).length):(zd (quoB b l) k).getD s 0<=(zd (quoB b l) k).getD t 0:=by
 have h0:∀ i,(([zeros l]:List #[23]).getD i []).getD k 0=0:=fun i=>by
  cases i with
  | zero=>
   show(zeros l).getD k 0=0
   unfold zeros;rw [YaP,Yad]
   split<;>rfl
  | succ i=>simp
 have hm:=zdI hb l (n:=many l) (p:=#[35]) (fun s hs=>⟨(h.2.1 s hs).2.1,(h.2.1 s hs).2.2⟩) ⟨by unfold zeros;simp,fun k=>⟨fun i j _ hj=>?_,fun i hi=>?_⟩⟩
 . rw [zaU,zaU]
   exact(hm.2 k).1 s t hst ht
 . have e1:j=0:=by simpa using hj
   have e2:i=0:=#[0]
   subst e1 e2;exact WbJ _
 . have e2:i=0:=by simpa using hi
   subst e2;exact WbJ _
def posP(row:List Int)(c:Int)(i:Nat):Bool:=decide (row.getD i 0=c)
theorem zbe(b:Int){n c:Nat}(hc:c<n){row:List Int}(hr:∀ x∈row,0<=x/\x<(n:Int)):∀ t,t<=row.length->(hadN b n (row.take t)).getD c 0=((tk (posP row c) t).length:Int)*b:=by
 intro t
 induction t with
 | zero=>
  intro _;show(List.replicate n (0:Int)).getD c 0=_;rw [YaP,Yad,if_pos hc]
  simp [tk]
 | succ t ih=>
  intro ht;have hlt:t<row.length:=#[0]
  have hx:=hr row[t] (Ya4 hlt);have hp:posP row c t=decide (row[t]=(c:Int)):=by
   unfold posP;rw [YaP,YaQ hlt];rfl
  have ihh:=ih #[0]
  have hhl:=J3 b n (row.take t);rw [List.take_succ_eq_append_getElem hlt,zdo,Jk,hp];unfold had1
  by_cases e:row[t]=(c:Int)
  . have e1:row[t].toNat=c:=#[0]
    rw [e1,decide_eq_true e,if_pos rfl,YaP,Yas #[0],YaS,List.length_singleton,Int.natCast_succ,WbG,WbI,<-ihh]
    rfl
  . have e1:row[t].toNat≠c:=#[0]
    rw [decide_eq_false e,YaP,Yac e1,<-YaP,ihh]
    simp
def posL(row:List Int)(c:Int):List Nat:=tk (posP row c) row.length
theorem IsW.cnt{n:Nat}{k:Int}{F:Int->Int×Option Int}{N:Int}:∀ {ws:List Win} {j:Int},IsW n k F j ws->(ws.filter fun w=>decide (w.2.1<=N)).length=min ws.length (N+1 - j).toNat
 | [],j,_=>by simp
 | v :: r, j, h => by
  have ih:=IsW.cnt (N:=N) h.2.2;have e:v.2.1=j:=by rw [h.2.1]
  rw [YaM,e]
  by_cases z:j<=N
  . rw [decide_eq_true z,if_pos rfl,List.length_cons,List.length_cons,ih];omega
  . rw [decide_eq_false z,if_neg #[1],ih,List.length_cons];omega
theorem zcl(ns:List Int):Plain 1 (dI ns):=Plain.list fun d hd=>by
 obtain⟨i,_,rfl⟩:=Ya7.mp hd;exact Plain.int i
theorem zkU(s:Spell):Plain 2 (dS s):=Plain.tuple fun d hd=>by
 rcases Wbm.mp hd with rfl|hd
 . exact(Plain.int _).mono #[1]
 . rw [Ya6.mp hd];exact zcl _
theorem zmh(l:#[31]):Plain 3 (dSs l):=Plain.list fun d hd=>by
 obtain⟨s,_,rfl⟩:=Ya7.mp hd;exact zkU s
def lowQ(a b:Int):Rat2:=(a/(Int.gcd a b:Int),b/(Int.gcd a b:Int))
theorem zgy{a b:Int}(hb:0<b)(ha:Bits 1100 a)(hB:Bits 1100 b):okQ (lowQ a b):=by
 obtain⟨l1,_,_,_⟩:=ze4 (a:=a) hb;exact⟨l1,(ha.le (Yay _ _)).mono #[1],(hB.le (Yay _ _)).mono #[1]⟩
theorem zei{a b:Int}(hb:0<b)(h0:0<=a)(h1:a<=10*b):inQ (lowQ a b):=by
 obtain⟨l1,l2,l3,l4⟩:=ze4 (a:=a) hb;have hg:=zgo (a:=a) hb;refine⟨Wbh h0 #[0],?_⟩
 show a/(Int.gcd a b:Int)<=10*(b/(Int.gcd a b:Int))
 generalize (Int.gcd a b:Int)=g at *;generalize a/g=x at *;generalize b/g=y at *;refine YaF (a:=g) ?_ hg;rw [Wbu,l3,l4];exact h1
theorem divQ{i j:Int}(h:0<j:=by decide)(hb:j.natAbs<2 ^ 64:=by decide):Jn i j:=⟨h,Bits.mono (j:=64) hb #[1]⟩
theorem zaZ{α : Type}[DecidableEq α]:∀ {L M:List α},L.Nodup->(∀ x∈L,x∈M)->L.length<=M.length
 | [],_,_,_=>WbF _
 | a :: L, M, nd, h => by
  have ha:=h a YaV;have:=zaZ (L:=L) (M:=M.erase a) (YaB.mp nd).2 fun x hx=>by
   have hne:x≠a:=fun e=>(YaB.mp nd).1 (e ▸ hx)
   exact(List.mem_erase_of_ne hne).mpr (h x (YaT _ hx))
  rw [Wao ha] at this;have h1:0<M.length:=YaO ha;rw [List.length_cons];omega
def cnt(row:List Int)(c:Int):Int:=((row.filter fun x=>decide (x=c)).length:Int)
theorem zir(r:List Int)(x c:Int):cnt (r++[x]) c=cnt r c+if x=c then 1 else 0:=by
 unfold cnt;rw [List.filter_append,YaS]
 by_cases e:x=c
 . simp [e]
 . simp [e]
theorem zmd{r:List Int}{k:Nat}(h:k<r.length):r.take (k+1)=r.take k++[r.getD k 0]:=by
 rw [WaW,YaQ h,YaP,YaQ h];rfl
theorem zbZ{r:List Int}{k:Nat}(h:k<r.length)(c:Int):cnt (r.take (k+1)) c=cnt (r.take k) c+if r.getD k 0=c then 1 else 0:=by
 rw [zmd h,zir]
def keyR(row:List Int)(k:Nat):Int×Int:=(row.getD k 0,cnt (row.take (k+1)) (row.getD k 0))
def keyW(v:Win):Int×Int:=(v.1,v.2.1)
def zbd(t:Int):Option Int->Prop
 | none=>True
 | some x=>t<=x
def zaX(V:List Win)(row:List Int):Prop:=
 (∀ k,k<row.length->∃ v∈V,keyW v=keyR row k/\v.2.2.1<=(k:Int)+1/\zbd ((k:Int)+1) v.2.2.2)/\∀ v∈V,v.2.2.2≠none->v.2.1<=cnt row v.1
def kl(T:Int)(v:Win):Int:=v.2.2.2.getD (T+1)
structure OkVs(T:Int)(V:List Win):Prop where
 nd:(V.map keyW).Nodup
 one:∀ v∈V,1<=v.2.1/\1<=v.2.2.1
 pre:∀ v∈V,∀ i,1<=i->i<v.2.1->∃ u∈V,keyW u=(v.1,i)
 ord:∀ u∈V,∀ v∈V,u.1=v.1->u.2.1<v.2.1->u.2.2.1<=v.2.2.1/\kl T u<=kl T v
 top:∀ v∈V,∀ x,v.2.2.2=some x->x<=T
theorem zcq{V:List Win}(nd:(V.map keyW).Nodup){u v:Win}(hu:u∈V)(hv:v∈V)(e:keyW u=keyW v):u=v:=by
 induction V with
 | nil=>cases hu
 | cons a r ih=>
  rw [Ya1,YaB] at nd
  rcases Wbm.mp hu with hu|hu<;>rcases Wbm.mp hv with hv|hv
  . rw [hu,hv]
  . exact absurd (Ya7.mpr ⟨v,hv,by rw [<-e,hu]⟩) nd.1
  . exact absurd (Ya7.mpr ⟨u,hu,by rw [e,hv]⟩) nd.1
  . exact ih nd.2 hu hv
def IsWs(l:#[31])(bs:List #[39])(W:List (List Win)):Prop:=W.length=many l/\∀ k,k<many l->IsW (quo l).length k (winB (bot l) #[29] #[18]) 1 (W.getD k [])
def kp1(b:Int)(n:Nat)(q:List #[23])(row:List Int)(t k:Nat)(p:Rat2×Rat2):Prop:=-(ldF b n q row t k)*p.1.2<=p.1.1*b/\ldF b n q row t k*p.2.2<=p.2.1*b
def kpP(b:Int)(n:Nat)(q:List #[23])(row:List Int)(bs:List #[39]):Prop:=∀ t,t<row.length->∀ (k:Nat) (p:Rat2×Rat2),bs[k]?=some p->kp1 b n q row t k p
theorem zec{n:Nat}(hn:1<=n){p q:Nat->Bool}(h:∀ t,q t=true->p t=true):zk n p<=zk n q:=by
 obtain⟨a1,a2,_,a4⟩:=z9 hn q
 by_cases z:zk n q<n
 . exact zbL hn a1 (h _ (a4 z))
 . obtain⟨_,b2,_,_⟩:=z9 hn p
   omega
theorem zbX{b:Int}{path:List Int}{room:Int×Int}{j:Int}{T:Nat}(hl:path.length=T+1):(winB b path room j).2.getD ((T:Int)+1)=((zk (T+1) (fun t=>decide ((j - 1)*b+room.1+1<=path.getD t 0)):Nat):Int):=by
 unfold winB winP;rw [hl];dsimp only
 split
 . rename_i h;rw [h];simp
 . rfl
theorem IsWs.get{l:#[31]}{bs:List #[39]}{W:List (List Win)}(h:IsWs l bs W){w:Win}(hw:w∈W.flatten):∃ k,k<many l/\∃ i:Nat,i<(W.getD k []).length/\w=((k:Int),1+(i:Int),(winB (bot l) #[29] #[18] (1+(i:Int))).1,(winB (bot l) #[29] #[18] (1+(i:Int))).2):=by
 obtain⟨k,hk,hw⟩:=zhc hw;rw [h.1] at hk;obtain⟨i,hi,e⟩:=Yam hw;have:=(h.2 k hk).at hi;rw [YaQ hi,e] at this;exact⟨k,hk,i,hi,Wba this⟩
theorem IsWs.has{l:#[31]}{bs:List #[39]}{W:List (List Win)}(h:IsWs l bs W){k i:Nat}(hk:k<many l)(hi:i<(W.getD k []).length):((k:Int),1+(i:Int),(winB (bot l) #[29] #[18] (1+(i:Int))).1,(winB (bot l) #[29] #[18] (1+(i:Int))).2)∈W.flatten:=
 zey (by rw [h.1];exact hk) (Yah ((h.2 k hk).at hi))
theorem IsWs.uniq{l:#[31]}{bs:List #[39]}{W W':List (List Win)}(h:IsWs l bs W)(h':IsWs l bs W'):W=W':=by
 refine Wa4 (by rw [h.1,h'.1]) fun k h1 h2=>?_
 have hk:k<many l:=by rw [<-h.1];exact h1
 have:=IsW.uniq #[4] (h.2 k hk) (h'.2 k hk)
 rw [YaP,YaP,YaQ h1,YaQ h2] at this;exact this
theorem zeW{l:#[31]}(hok:okS l){bs:List #[39]}{W:List (List Win)}(h:IsWs l bs W):OkVs (tot l) W.flatten:=by
 have hql:=j7 hok;have htn:=jb fun s hs=>(hok.2.1 s hs).1
 have hbp:=Jp hok;obtain⟨T,hT⟩:∃ T:Nat,tot l=(T:Int):=⟨(tot l).toNat,#[0]⟩
 have hpl:∀ k,(zd (quo l) k).length=T+1:=fun k=>by unfold zd;rw [YaR];omega
 have hn:1<=T+1:=#[0]
 refine⟨?_,fun v hv=>?_,fun v hv i h1 h2=>?_,fun u hu v hv e hlt=>?_,fun v hv x hx=>?_⟩
 . rw [Waf,WaR,List.pairwise_flatten]
   refine⟨fun ws hws=>?_,?_⟩
   . obtain⟨k,hk,e⟩:=Yam hws
     have hk':k<many l:=by rw [<-h.1];exact hk
     have hIs:=h.2 k hk';have e2:W.getD k []=ws:=by rw [YaP,YaQ hk];exact e
     rw [e2] at hIs;rw [Wah];intro i j hi hj hij z;have a1:=hIs.at hi;have a2:=hIs.at hj;rw [YaQ hi] at a1;rw [YaQ hj] at a2;rw [Wba a1,Wba a2] at z;have z2:=congrArg Prod.snd z;have z2:(1+(i:Int))=1+(j:Int):=z2
     omega
   . rw [Wah]
     intro i j hi hj hij x hx y hy z;have m:∀ (k:Nat) (hk:k<W.length) (x:Win),x∈W[k]->x.1=(k:Int):=fun k hk x hx=>by
      have e2:W.getD k []=W[k]:=by rw [YaP,YaQ hk];rfl
      obtain⟨j,_,rfl⟩:=(h.2 k (by rw [<-h.1];exact hk)).mem (by rw [e2];exact hx)
      rfl
     have z1:x.1=y.1:=congrArg (fun p:Int×Int=>p.1) z
     rw [m i hi x hx,m j hj y hy] at z1
     omega
 . obtain⟨k,hk,i,hi,rfl⟩:=h.get hv
   refine⟨by show 1<=1+(i:Int);omega,?_⟩
   show 1<=(winB _ _ _ _).1
   unfold winB winP;have:=(z9 (n:=(zd (quo l) k).length) (by rw [hpl];omega) fun t=>decide ((1+(i:Int))*bot l - ((zx (bot l) bs).getD k (0,0)).2<=(zd (quo l) k).getD t 0)).1
   dsimp only
   omega
 . obtain⟨k,hk,m,hm,rfl⟩:=h.get hv
   have h2:i<1+(m:Int):=h2;refine⟨_,h.has hk (i:=(i - 1).toNat) #[0],?_⟩
   show((k:Int),1+(((i - 1).toNat:Nat):Int))=((k:Int),i)
   rw [show 1+(((i - 1).toNat:Nat):Int)=i by omega]
 . obtain⟨k,hk,m,hm,rfl⟩:=h.get hu
   obtain⟨k',hk',m',hm',rfl⟩:=h.get hv;have e:(k:Int)=(k':Int):=e;obtain rfl:k=k':=#[0]
   have hlt:1+(m:Int)<1+(m':Int):=hlt;have mulm:∀ x y:Int,x<=y->x*bot l<=y*bot l:=fun x y h=>Ybe h #[0]
   refine⟨?_,?_⟩
   . show(winB _ _ _ _).1<=(winB _ _ _ _).1
     unfold winB winP;dsimp only;have:=zec (n:=(zd (quo l) k).length) (by rw [hpl];omega) (p:=fun t=>decide ((1+(m:Int))*bot l - ((zx (bot l) bs).getD k (0,0)).2<=(zd (quo l) k).getD t 0)) (q:=fun t=>decide ((1+(m':Int))*bot l - ((zx (bot l) bs).getD k (0,0)).2<=(zd (quo l) k).getD t 0)) fun t ht=>by
      have ht:=of_decide_eq_true ht;have:=mulm (1+m) (1+m') #[0]
      exact decide_eq_true #[0]
     omega
   . show kl (tot l) (_,_,_,(winB _ _ _ _).2)<=kl (tot l) (_,_,_,(winB _ _ _ _).2)
     unfold kl;dsimp only;rw [hT,zbX (hpl k),zbX (hpl k)];have:=zec (n:=T+1) hn (p:=fun t=>decide ((1+(m:Int) - 1)*bot l+((zx (bot l) bs).getD k (0,0)).1+1<=(zd (quo l) k).getD t 0)) (q:=fun t=>decide ((1+(m':Int) - 1)*bot l+((zx (bot l) bs).getD k (0,0)).1+1<=(zd (quo l) k).getD t 0)) fun t ht=>by
      have ht:=of_decide_eq_true ht;have:=mulm (1+m - 1) (1+m' - 1) #[0]
      exact decide_eq_true #[0]
     omega
 . obtain⟨k,hk,i,hi,rfl⟩:=h.get hv
   have hx:(winB (bot l) #[29] #[18] (1+(i:Int))).2=some x:=hx;have e:=zbX (b:=bot l) (room:=(zx (bot l) bs).getD k (0,0)) (j:=1+(i:Int)) (hpl k);rw [hx] at e;have e:x=_:=e;unfold winB winP at hx;rw [hpl] at hx;dsimp only at hx;have:=(z9 hn fun t=>decide ((1+(i:Int) - 1)*bot l+((zx (bot l) bs).getD k (0,0)).1+1<=(zd (quo l) k).getD t 0)).2.1
   split at hx
   . cases hx
   . rename_i hne
     omega
theorem zfk{α : Type}{c:Nat}:∀ {L:List (List α)},(∀ l∈L,l.length<=c)->L.flatten.length<=L.length*c
 | [],_=>by simp
 | a :: r, h => by
  have:=zfk (L:=r) fun l hl=>h l (YaT _ hl)
  have:=h a YaV;rw [List.flatten_cons,YaS,List.length_cons,Nat.add_mul,Nat.one_mul]
  omega
theorem IsWs.small{l:#[31]}(hok:okS l){bs:List #[39]}(hB:okB (many l) bs)(ho:∀ p∈bs,okQ p.1/\okQ p.2){W:List (List Win)}(h:IsWs l bs W):W.flatten.length<1000:=by
 have hql:=j7 hok;have htn:=jb fun s hs=>(hok.2.1 s hs).1
 have hbp:=Jp hok;have hm:=j6 hok;have key:∀ ws∈W,ws.length<=71:=fun ws hws=>by
  obtain⟨k,hk,e⟩:=Yam hws;have hk':k<many l:=by rw [<-h.1];exact hk
  have hIs:=h.2 k hk';have e2:W.getD k []=ws:=by rw [YaP,YaQ hk];exact e
  rw [e2] at hIs;have hkb:k<bs.length:=by rw [hB.1];exact hk'
  have er:(zx (bot l) bs).getD k (0,0)=(zr (bot l) bs[k].1,zr (bot l) bs[k].2):=by
   rw [YaP];unfold zx;rw [Ya0,YaQ hkb];rfl
  have z:=hB.2 bs[k] (Ya4 hkb);have y:=ho bs[k] (Ya4 hkb);have r1:0<=zr (bot l) bs[k].1:=Wbh (YaK z.1.1 #[0]) (by have:=y.1.1;omega)
  have r2:0<=zr (bot l) bs[k].2:=Wbh (YaK z.2.1 #[0]) (by have:=y.2.1;omega)
  have r3:zr (bot l) bs[k].2<=10*bot l:=by
   refine WaC y.2.1 ?_
   have h1:bs[k].2.1*bot l<=10*bs[k].2.2*bot l:=Ybe z.2.2 #[0]
   have e1:10*bs[k].2.2*bot l=10*bot l*bs[k].2.2:=by ac_rfl
   omega
  have hp:∀ t,(zd (quo l) k).getD t 0+zr (bot l) bs[k].2<=70*bot l:=fun t=>by
   have:(zd (quo l) k).getD t 0<=60*bot l:=by
    rw [YaP];cases ht:#[29][t]? with
    | none=>show(0:Int)<=_;omega
    | some x=>
     show x<=_
     unfold zd at ht;rw [Ya0] at ht;obtain⟨r,hr,rfl⟩:=YaJ.mp ht;rw [YaP];cases hx:r[k]? with
     | none=>show(0:Int)<=_;omega
     | some x=>
      have h1:=ZJ hok hbp r (Yah hr) x (Yah hx);have h2:tot l*bot l<=60*bot l:=Ybe hok.2.2 #[0]
      show x<=_
      omega
   omega
  have hpl:(zd (quo l) k).length=(quo l).length:=by unfold zd;rw [YaR]
  rw [er] at hIs;have:=IsW.len (M:=71) (fun i hi=>zbn (room:=(zr (bot l) bs[k].1,zr (bot l) bs[k].2)) hbp (by rw [hpl];omega) hp r2 r1 i (by rw [hpl];exact hi)) hIs #[1]
  omega
 have:=zfk key;have h2:W.length*71<=8*71:=Nat.mul_le_mul_right _ (by rw [h.1];exact hm.2)
 omega
theorem zmE{l:#[31]}(hok:okS l){bs:List #[39]}(hB:okB (many l) bs)(ho:∀ p∈bs,okQ p.1/\okQ p.2){row:List Int}(hrow:zbk (many l) (tot l).toNat row){W:List (List Win)}(hW1:W.length=many l)(hW2:∀ k,k<many l->IsW (quo l).length k (winB (bot l) #[29] #[18]) 1 (W.getD k [])) :
 zcB (JI (bot l) (many l) (quo l) row row.length) (zx (bot l) bs)↔∀ k,k<many l->((∀ w∈W.getD k [],okV (posL row k) w)/\(posL row k).length<=(W.getD k []).length):=by
 have hbp:=Jp hok;have hql:=j7 hok;have htn:=jb fun s hs=>(hok.2.1 s hs).1
 have hrl:row.length=(tot l).toNat:=hrow.1;have hqT:(quo l).length=row.length+1:=#[0]
 have hqr:∀ r∈quo l,r.length=many l:=fun r hr=>zbq hok (b:=bot l) hr
 have hpl:∀ k,(zd (quo l) k).length=row.length+1:=fun k=>by unfold zd;rw [YaR,hqT]
 have hroom:∀ k,k<many l->(zx (bot l) bs)[k]?=some #[18]/\0<=((zx (bot l) bs).getD k (0,0)).1/\0<=((zx (bot l) bs).getD k (0,0)).2:=fun k hk=>by
  have hkb:k<bs.length:=by rw [hB.1];exact hk
  have e:(zx (bot l) bs)[k]?=some (zr (bot l) bs[k].1,zr (bot l) bs[k].2):=by unfold zx;rw [Ya0,YaQ hkb];rfl
  have e2:(zx (bot l) bs).getD k (0,0)=(zr (bot l) bs[k].1,zr (bot l) bs[k].2):=by rw [YaP,e];rfl
  rw [e2];have z:=hB.2 bs[k] (Ya4 hkb);have y:=ho bs[k] (Ya4 hkb);exact⟨e,Wbh (YaK z.1.1 #[0]) (by have:=y.1.1;omega),Wbh (YaK z.2.1 #[0]) (by have:=y.2.1;omega)⟩
 have hzero:∀ k,0<=(zd (quo l) k).getD 0 0:=fun k=>by
  obtain⟨r,hr⟩:=zdj (bot l) l;have:quo l=quoB (bot l) l:=rfl;rw [this,zaU,hr];show 0<=(zeros l).getD k 0;unfold zeros;rw [YaP,Yad]
  split<;>simp
 have clan:=fun(k:Nat) (hk:k<many l)=>zjd hbp (hpl k) (fun s t hst ht=>zfe hok (b:=bot l) #[0] k s t hst (by show t<(quo l).length;omega)) (hzero k) (hroom k hk).2.1 (hroom k hk).2.2 (posP row k) (ws:=W.getD k []) (k:=k) (by rw [<-hqT];exact hW2 k hk)
 have lead:∀ (t k:Nat),t<row.length->k<many l->(jl (bot l) (many l) (quo l) row t)[k]?=some (((tk (posP row k) (t+1)).length:Int)*bot l - (zd (quo l) k).getD (t+1) 0):=fun t k ht hk=>by
  have hmem:(quo l).getD (t+1) []∈quo l:=by
   rw [YaP,YaQ #[0]];exact Ya4 _
  have h2:=hqr _ hmem;have h3:=J3 (bot l) (many l) #[51];unfold jl subL;have hz:((hadN (bot l) (many l) #[51]).zip ((quo l).getD (t+1) []))[k]?=some ((hadN (bot l) (many l) #[51])[k]'(by omega),((quo l).getD (t+1) [])[k]'(by omega)):=Wak.mpr ⟨YaQ #[0],YaQ #[0]⟩
  rw [Ya0,hz,<-zbe (bot l) hk hrow.2 (t+1) #[0],zaU]
  simp [YaP,YaQ (show k<(hadN (bot l) (many l) #[51]).length by omega),YaQ (show t+1<(quo l).length by omega)]
  have hk2:k<((quo l)[t+1]'(by omega)).length:=by rw [hqr _ (Ya4 _)];exact hk
  have e:((quo l)[t+1]'(by omega))[k]?=some (((quo l)[t+1]'(by omega))[k]):=YaQ hk2
  rw [e]
  rfl
 have keepI:zcB (JI (bot l) (many l) (quo l) row row.length) (zx (bot l) bs)↔∀ k,k<many l->((∀ w∈W.getD k [],okV (tk (posP row k) row.length) w)/\(tk (posP row k) row.length).length<=(W.getD k []).length):=by
  constructor
  . intro h k hk
    refine(clan k hk).mp fun t ht=>?_
    exact h _ (by unfold JI;exact Ya7.mpr ⟨t,Yba.mpr ht,rfl⟩) k _ _ (lead t k ht hk) (hroom k hk).1
  . intro h ld hld i x p hx hp
    unfold JI at hld;obtain⟨t,ht,rfl⟩:=Ya7.mp hld;have ht':=Yba.mp ht;have hi:i<many l:=by
     have:=(Ya8.mp hp).1;unfold zx at this;rw [YaR,hB.1] at this;exact this
    rw [lead t i ht' hi] at hx;rw [(hroom i hi).1] at hp;cases hx;cases hp;exact(clan i hi).mpr (h i hi) t ht'
 exact keepI
theorem zbt(row:List Int)(c:Int):∀ m,m<=row.length->cnt (row.take m) c=((tk (posP row c) m).length:Int)
 | 0,_=>by simp [cnt,tk]
 | m + 1, h => by
  rw [zbZ #[0],zbt row c m #[0],Jk,YaS]
  unfold posP
  by_cases e:row.getD m 0=c
  . rw [if_pos e,decide_eq_true e,if_pos rfl];rfl
  . rw [if_neg e,decide_eq_false e,if_neg #[1]];rfl
theorem zmc(p:Nat->Bool){T t:Nat}(ht:t<T)(hp:p t=true):(tk p T)[(tk p t).length]?=some t:=by
 obtain⟨r,h1,_⟩:=zcs p (show t+1<=T by omega)
 rw [h1,Jk,if_pos hp,Yag,Yae (YaY _),WbD]
 rfl
theorem zkL{l:#[31]}(hok:okS l){bs:List #[39]}{W:List (List Win)}(h:IsWs l bs W){row:List Int}(hrow:zbk (many l) (tot l).toNat row):zaX W.flatten row↔∀ k,k<many l->((∀ w∈W.getD k [],okV (posL row k) w)/\(posL row k).length<=(W.getD k []).length):=by
 have ok:=zeW hok h;have hcnt:∀ c:Int,cnt row c=((posL row c).length:Int):=fun c=>by
  have:=zbt row c row.length (YaY _);rw [List.take_length] at this;exact this
 have wk:∀ (k:Nat),k<many l->∀ w∈W.getD k [],∃ j:Int,1<=j/\w=((k:Int),j,(winB (bot l) #[29] #[18] j).1,(winB (bot l) #[29] #[18] j).2):=fun k hk w hw=>(h.2 k hk).mem hw
 have atp:∀ (c:Int) (j:Int),1<=j->j<=((posL row c).length:Int)->∃ t,t<row.length/\(posL row c)[(j - 1).toNat]?=some t/\keyR row t=(c,j):=fun c j h1 h2=>by
  have hlt:(j - 1).toNat<(posL row c).length:=#[0]
  have hg:(posL row c)[(j - 1).toNat]?=some (posL row c)[(j - 1).toNat]:=YaQ hlt;generalize (posL row c)[(j - 1).toNat]=t at hg;unfold posL at hg;obtain⟨a1,a2,a3⟩:=Ze (posP row c) hg;refine⟨t,a1,hg,?_⟩;have hp:posP row c t=true:=by
   cases z:posP row c t with
   | true=>rfl
   | false=>rw [Jk,z,if_neg #[1],Yao] at a3;omega
  have hp:row.getD t 0=c:=of_decide_eq_true hp;unfold keyR;rw [hp,zbt row c (t+1) #[0],a3]
  congr 1
  omega
 constructor
 . intro hf k hk
   have inW:∀ j:Int,∀ v∈W.flatten,keyW v=((k:Int),j)->∃ i:Nat,i<(W.getD k []).length/\j=1+(i:Int)/\v∈W.getD k []:=fun j v hv e=>by
    obtain⟨k',hk',i,hi,rfl⟩:=h.get hv;have e1:(k':Int)=(k:Int):=congrArg Prod.fst e;have e2:1+(i:Int)=j:=congrArg Prod.snd e;obtain rfl:k'=k:=#[0]
    exact⟨i,hi,e2.symm,Yah ((h.2 k' hk').at hi)⟩
   refine⟨fun w hw=>?_,?_⟩
   . obtain⟨j,hj,rfl⟩:=wk k hk w hw
     have hwV:_∈W.flatten:=zey (by rw [h.1];exact hk) hw
     unfold okV;dsimp only
     by_cases hc:j<=((posL row k).length:Int)
     . rw [if_pos hc]
       obtain⟨t,ht,hg,hkey⟩:=atp k j hj hc;obtain⟨v,hv,e,o,la⟩:=hf.1 t ht;have:v=_:=zcq ok.nd hv hwV (e.trans hkey);rw [this] at o la;have gd:(posL row k).getD (j - 1).toNat 0=t:=by rw [YaP,hg];rfl
       rw [gd];dsimp only at o la;refine⟨#[0],fun x hx=>?_⟩
       rw [hx] at la;have la:(t:Int)+1<=x:=la
       omega
     . rw [if_neg hc]
       cases hl:(winB (bot l) #[29] #[18] j).2 with
       | none=>rfl
       | some x=>
        have:=hf.2 _ hwV (by dsimp only;rw [hl];nofun)
        dsimp only at this;rw [hcnt] at this;exact absurd this hc
   . by_cases z:(posL row k).length=0
     . omega
     . obtain⟨t,ht,hg,hkey⟩:=atp k ((posL row k).length:Int) #[0] (WbJ _)
       obtain⟨v,hv,e,_⟩:=hf.1 t ht;obtain⟨i,hi,e2,_⟩:=inW _ v hv (e.trans hkey)
       omega
 . intro hc
   refine⟨fun t ht=>?_,fun v hv hne=>?_⟩
   . have hx:=hrow.2 row[t] (Ya4 ht)
     have hgd:row.getD t 0=row[t]:=by rw [YaP,YaQ ht];rfl
     obtain⟨k,hk⟩:∃ k:Nat,row[t]=(k:Int):=⟨row[t].toNat,#[0]⟩
     have hkm:k<many l:=#[0]
     have hp:posP row k t=true:=decide_eq_true (by rw [hgd,hk])
     have h1:(tk (posP row k) (t+1)).length=(tk (posP row k) t).length+1:=by rw [Jk,if_pos hp,YaS];rfl
     have h2:=zaC (posP row k) (show t+1<=row.length by omega)
     have h3:(posL row k).length<=(W.getD k []).length:=(hc k hkm).2;have h4:(tk (posP row k) (t+1)).length<=(posL row k).length:=h2;have hi:(tk (posP row k) t).length<(W.getD k []).length:=#[0]
     have hw:=(h.2 k hkm).at hi;have hok':=(hc k hkm).1 _ (Yah hw);unfold okV at hok';dsimp only at hok';rw [if_pos #[0]] at hok'
     have ix:(posL row k).getD (1+((tk (posP row k) t).length:Int) - 1).toNat 0=t:=by
      rw [show(1+((tk (posP row k) t).length:Int) - 1).toNat=(tk (posP row k) t).length by omega,YaP]
      unfold posL;rw [zmc (posP row k) ht hp];rfl
     rw [ix] at hok';refine⟨_,h.has hkm hi,?_,by have:=hok'.1;omega,?_⟩
     . unfold keyR keyW
       dsimp only;rw [hgd,hk,zbt row k (t+1) #[0],h1]
       congr 1
       omega
     . dsimp only
       cases hl:(winB (bot l) #[29] #[18] (1+((tk (posP row k) t).length:Int))).2 with
       | none=>trivial
       | some x=>
        have:=hok'.2 x hl;show(t:Int)+1<=x
        omega
   . obtain⟨k,hk,i,hi,rfl⟩:=h.get hv
     have hok':=(hc k hk).1 _ (Yah ((h.2 k hk).at hi));unfold okV at hok';dsimp only at hok' hne ⊢;rw [hcnt]
     by_cases z:1+(i:Int)<=((posL row k).length:Int)
     . exact z
     . rw [if_neg z] at hok'
       exact absurd hok' hne
theorem zkt{b c:Int}{n:Nat}{q q':List #[23]}{row:List Int}{bs:List #[39]}(hb:0<b)(hc:0<c)(e:q.map (List.map (· * c))=q'.map (List.map (· * b)))(hn:bs.length=n)(ho:∀ p∈bs,okQ p.1/\okQ p.2)(hq:∀ t,t<row.length->(jl b n q row t).length=n) :
 zcB (JI b n q row row.length) (zx b bs)↔kpP c n q' row bs:=by
 have key:∀ k p,bs[k]?=some p->∀ t,t<row.length->((-(zr b p.1)<=ldF b n q row t k↔-(ldF c n q' row t k)*p.1.2<=p.1.1*c)/\(ldF b n q row t k<=zr b p.2↔ldF c n q' row t k*p.2.2<=p.2.1*c)):=fun k p hp t ht=>by
  obtain⟨o1,o2⟩:=ho p (Yah hp);have ep:=zll (n:=n) (row:=row) e t k;have a1:=zd8 (x:=-(ldF b n q row t k)) (y:=-(ldF c n q' row t k)) (v:=p.1.1) hb hc o1.1 (by rw [Int.neg_mul,Int.neg_mul,ep])
  have a2:=zd8 (v:=p.2.1) hb hc o2.1 ep;refine⟨Iff.trans ?_ a1,a2⟩;unfold zr
  constructor<;>intro h<;>omega
 constructor
 . intro h t ht k p hp
   have hkn:k<n:=by rw [<-hn];exact(Ya8.mp hp).1
   have hx:(jl b n q row t)[k]?=some (ldF b n q row t k):=by
    unfold ldF;rw [YaP,YaQ (by rw [hq t ht];exact hkn)];rfl
   have hr:(zx b bs)[k]?=some (zr b p.1,zr b p.2):=by unfold zx;rw [Ya0,hp];rfl
   have:=h (jl b n q row t) (by unfold JI;exact Ya7.mpr ⟨t,Yba.mpr ht,rfl⟩) k _ _ hx hr
   have kk:=key k p hp t ht;exact⟨kk.1.mp this.1,kk.2.mp this.2⟩
 . intro h ld hld k x r hx hr
   unfold JI at hld;obtain⟨t,ht,rfl⟩:=Ya7.mp hld;have ht':=Yba.mp ht;unfold zx at hr;rw [Ya0] at hr;cases hp:bs[k]? with
   | none=>rw [hp] at hr;cases hr
   | some p=>
    rw [hp] at hr;have hr':=(Wba hr).symm;subst hr';have hxe:x=ldF b n q row t k:=by unfold ldF;rw [YaP,hx];rfl
    have kk:=key k p hp t ht';have g:=h t ht' k p hp;rw [hxe];exact⟨kk.1.mpr g.1,kk.2.mpr g.2⟩
theorem zl7{n:Nat}{row:List Int}(hr:∀ x∈row,0<=x/\x<(n:Int)){t:Nat}(ht:t<=row.length){k:Nat}(hk:k<n):0<=(hadN 1 n (row.take t)).getD k 0/\(hadN 1 n (row.take t)).getD k 0<=(t:Int):=by
 rw [zbe 1 hk hr t ht];have:(tk (posP row k) t).length<=t:=by
  unfold tk;have:=List.length_filter_le (posP row k) (List.range t);rw [YaG] at this;exact this
 omega
theorem ziS{b:Int}{n:Nat}{rows:List #[23]}{row:List Int}(hr:∀ x∈row,0<=x/\x<(n:Int)){t:Nat}(ht:t<row.length)(hk1:t+1<rows.length)(hrl:rows[t+1].length=n){i:Nat}(hi:i<n):ldF b n rows row t i=(hadN 1 n #[51]).getD i 0*b - rows[t+1].getD i 0:=by
 have hhl1:=J3 b n #[51];have e:(hadN b n #[51]).getD i 0=(hadN 1 n #[51]).getD i 0*b:=by
  rw [zbe b hi hr _ #[0],zbe 1 hi hr _ #[0],Int.mul_one]
 rw [<-e];have hld:jl b n rows row t=subL (hadN b n #[51]) rows[t+1]:=by
  unfold jl;rw [YaP,YaQ hk1];rfl
 unfold ldF;rw [hld];unfold subL;have hz:((hadN b n #[51]).zip rows[t+1])[i]?=some ((hadN b n #[51])[i]'(by omega),rows[t+1][i]'(by omega)):=Wak.mpr ⟨YaQ #[0],YaQ #[0]⟩
 rw [YaP,Ya0,hz]
 simp [YaP,YaQ (show i<rows[t+1].length by omega),YaQ (show i<(hadN b n #[51]).length by omega)]
theorem atI2{α : Type}{x y z:α}{xs:List α}:atI (x::y::z::xs) 2=some z:=jt (j:=2) rfl
theorem atI3{α : Type}{x y z w:α}{xs:List α}:atI (x::y::z::w::xs) 3=some w:=jt (j:=3) rfl
theorem hu65{A:Around}{k:Nat}(hr:Room k A):A.units+65<cLine:=by have:=hr.un;omega
abbrev Rule:=Str×Int×Int
def dRl(r:Rule):D:=.tuple [.str r.1,.int r.2.1,.int r.2.2]
def dRs(rs:List Rule):D:=.list (rs.map dRl)
def okRl(T n:Int)(r:Rule):Prop:=(r.1 = "fixed"\/r.1 = "barred")/\(1<=r.2.1/\r.2.1<=T)/\0<=r.2.2/\r.2.2<n
def okRs(T n:Int)(rs:List Rule):Prop:=∀ r∈rs,okRl T n r
def txtR(rs:List Rule):Prop:=∀ r∈rs,SeqAt.shaped (.str r.1)=true
theorem zU(t:Tb)(k v k':Int):getM (putM t k v) k'=if k=k' then some v else getM t k':=by
 unfold putM
 split
 . rename_i h
   induction t with
   | nil=>cases h
   | cons p r ih=>
    unfold getM at ih ⊢;rw [Ya1,List.find?_cons,List.find?_cons]
    by_cases e:p.1=k
    . rw [if_pos e]
      by_cases e':k=k'
      . subst e'
        simp [e]
      . have e2:¬p.1=k':=fun z=>e' (e.symm.trans z)
        simp only [e2,decide_false]
        by_cases hr:(r.any fun p=>decide (p.1=k))=true
        . exact ih hr
        . rw [if_neg e']
          have hm:r.map (fun p=>if p.1=k then(p.1,v) else p)=r:=by
           refine(Yat fun p hp=>?_).trans (List.map_id r)
           have:¬p.1=k:=fun z=>hr (Wa6.mpr ⟨p,hp,decide_eq_true z⟩)
           rw [if_neg this];rfl
          rw [hm]
    . rw [if_neg e]
      rw [List.any_cons,decide_eq_false e,Wbp] at h
      by_cases e':p.1=k'
      . have e2:¬k=k':=fun z=>e (e'.trans z.symm)
        simp [e',e2]
      . simp only [e',decide_false]
        exact ih h
 . rename_i h
   unfold getM;rw [List.find?_append]
   by_cases e:k=k'
   . subst e
     have:t.find? (fun p=>decide (p.1=k))=none:=List.find?_eq_none.mpr fun p hp z=>h (Wa6.mpr ⟨p,hp,z⟩)
     rw [this];simp
   . rw [if_neg e]
     have:([(k,v)]:Tb).find? (fun p=>decide (p.1=k'))=none:=by simp [e]
     rw [this,Option.or_none]
theorem zeO{t:Tb}{k v:Int}(h:getM t k=some v):(k,v)∈t:=by
 unfold getM at h;cases e:t.find? (fun p=>decide (p.1=k)) with
 | none=>rw [e] at h;cases h
 | some r=>
  rw [e] at h;have h1:=List.mem_of_find?_eq_some e;have h2:=List.find?_some e;have h3:r.1=k:=of_decide_eq_true h2;have h4:r.2=v:=Wba h;rw [<-h3,<-h4];exact h1
def InR(x:Int)(A:Nat):Prop:=0<=x/\x<(A:Int)
theorem ZN{L:List Int}{A:Nat}(nd:L.Nodup)(h:∀ x∈L,InR x A):L.length<=A:=by
 have:=zaZ (M:=(List.range A).map fun i:Nat=>(i:Int)) nd fun x hx=>by
  obtain⟨h0,h1⟩:=h x hx;exact Ya7.mpr ⟨x.toNat,Yba.mpr #[0],#[0]⟩
 simpa using this
structure TbOk(t:Tb)(A B:Nat):Prop where
 nd:(t.map (·.1)).Nodup
 inn:∀ p∈t,InR p.1 A/\InR p.2 B
theorem TbOk.nil(A B:Nat):TbOk [] A B:=⟨Wbk,fun p h=>by cases h⟩
theorem TbOk.len{t:Tb}{A B:Nat}(h:TbOk t A B):t.length<=A:=by
 have:=ZN h.nd fun x hx=>by
  obtain⟨p,hp,rfl⟩:=Ya7.mp hx;exact(h.inn p hp).1
 simpa using this
theorem TbOk.get{t:Tb}{A B:Nat}(h:TbOk t A B){k v:Int}(e:getM t k=some v):InR k A/\InR v B:=h.inn _ (zeO e)
theorem zmm(t:Tb)(k v:Int):(putM t k v).map (·.1)=if k∈t.map (·.1) then t.map (·.1) else t.map (·.1)++[k]:=by
 have ha:((t.any fun p=>decide (p.1=k))=true)↔k∈t.map (·.1):=by
  rw [Wa6,Ya7];exact⟨fun⟨p,h1,h2⟩=>⟨p,h1,of_decide_eq_true h2⟩,fun⟨p,h1,h2⟩=>⟨p,h1,decide_eq_true h2⟩⟩
 unfold putM
 by_cases h:k∈t.map (·.1)
 . rw [if_pos (ha.mpr h),if_pos h,YaD]
   refine Yat fun p _=>?_
   show(if p.1=k then(p.1,v) else p).1=p.1
   split<;>rfl
 . rw [if_neg (fun z=>h (ha.mp z)),if_neg h,Ya2];rfl
theorem TbOk.put{t:Tb}{A B:Nat}(h:TbOk t A B){k v:Int}(hk:InR k A)(hv:InR v B):TbOk (putM t k v) A B:=by
 refine⟨?_,fun p hp=>?_⟩
 . rw [zmm]
   split
   . exact h.nd
   . rename_i n
     exact WaP.mpr ⟨h.nd,by simp,fun a ha b hb z=>n (by rw [Ya6.mp hb] at z;rw [<-z];exact ha)⟩
 . unfold putM at hp
   split at hp
   . obtain⟨q,hq,rfl⟩:=Ya7.mp hp
     have:=h.inn q hq
     split
     . exact⟨this.1,hv⟩
     . exact this
   . rcases Ya3.mp hp with z|z
     . exact h.inn p z
     . rw [Ya6.mp z];exact⟨hk,hv⟩
theorem zlE{t:Tb}{k v:Int}(h:getM t k=none):(putM t k v).length=t.length+1:=by
 unfold putM;rw [if_neg,YaS]
 . rfl
 . intro z
   obtain⟨p,hp,e⟩:=Wa6.mp z;have e:p.1=k:=of_decide_eq_true e;unfold getM at h;have:(t.find? fun p=>decide (p.1=k)).isSome=true:=List.find?_isSome.mpr ⟨p,hp,decide_eq_true e⟩
   cases y:t.find? (fun p=>decide (p.1=k)) with
   | none=>rw [y] at this;cases this
   | some r=>rw [y] at h;cases h
def Mat(t h:Tb):Prop:=∀ s c,getM t s=some c↔getM h c=some s
def MatB(t h:Tb)(c:Int):Prop:=(∀ s x,x≠c->(getM t s=some x↔getM h x=some s))/\∀ s,getM t s≠some c
theorem MatB.step{t h:Tb}{c s:Int}(m:MatB t h c):(getM t s=none->Mat (putM t s c) (putM h c s))/\∀ c',getM t s=some c'->MatB (putM t s c) (putM h c s) c':=by
 obtain⟨m1,m2⟩:=m
 constructor
 . intro e s' x
   rw [zU,zU]
   by_cases hx:c=x
   . subst hx
     rw [if_pos rfl]
     by_cases hs:s=s'
     . subst hs;rw [if_pos rfl];simp
     . rw [if_neg hs]
       exact⟨fun z=>absurd z (m2 s'),fun z=>absurd (Wba z) hs⟩
   . rw [if_neg hx]
     by_cases hs:s=s'
     . subst hs
       rw [if_pos rfl];refine⟨fun z=>absurd (Wba z) hx,fun z=>?_⟩
       have:=(m1 s x (WbM hx)).mpr z;rw [e] at this;cases this
     . rw [if_neg hs];exact m1 s' x (WbM hx)
 . intro c' e
   have hc:c'≠c:=fun z=>m2 s (z ▸ e)
   refine⟨fun s' x hx'=>?_,fun s' z=>?_⟩
   . rw [zU,zU]
     by_cases hx:c=x
     . subst hx
       rw [if_pos rfl]
       by_cases hs:s=s'
       . subst hs;rw [if_pos rfl];simp
       . rw [if_neg hs]
         exact⟨fun z=>absurd z (m2 s'),fun z=>absurd (Wba z) hs⟩
     . rw [if_neg hx]
       by_cases hs:s=s'
       . subst hs
         rw [if_pos rfl];refine⟨fun z=>absurd (Wba z) hx,fun z=>?_⟩
         have:=(m1 s x (WbM hx)).mpr z;rw [e] at this;exact absurd (Wba this).symm hx'
       . rw [if_neg hs];exact m1 s' x (WbM hx)
   . rw [zU] at z
     by_cases hs:s=s'
     . rw [if_pos hs] at z
       exact hc (Wba z).symm
     . rw [if_neg hs] at z
       have z1:=(m1 s' c' hc).mp z;rw [(m1 s c' hc).mp e] at z1;exact hs (Wba z1)
structure Way(Ed:Int->Int->Prop)(ca t:Tb)(r:Int->Nat)(start:Int)(A B:Nat):Prop where
 inn:∀ c s,getM ca c=some s->InR s A/\InR c B
 ed:∀ c s,getM ca c=some s->Ed s c
 back:∀ c s c',getM ca c=some s->getM t s=some c'->∃ s',getM ca c'=some s'/\r s'<r s
 first:∀ c s,getM ca c=some s->getM t s=none->s=start
structure Moved(Ed:Int->Int->Prop)(t h t' h':Tb)(start:Int)(A B:Nat):Prop where
 ed:∀ s c,getM t' s=some c->Ed s c
 mat:Mat t' h'
 ot:TbOk t' A B
 oh:TbOk h' B A
 dt:∀ s,(getM t' s).isSome=true↔(getM t s).isSome=true\/s=start
 dh:∀ c,(getM h c).isSome=true->(getM h' c).isSome=true
structure OnWay(Ed:Int->Int->Prop)(ca t0 h0 t h:Tb)(r:Int->Nat)(c:Int)(A B m:Nat):Prop where
 ed:∀ s c,getM t s=some c->Ed s c
 mat:MatB t h c
 ot:TbOk t A B
 oh:TbOk h B A
 came:∃ s,getM ca c=some s/\r s=m
 same:∀ s,r s<=m->getM t s=getM t0 s
 dt:∀ s,(getM t s).isSome=true↔(getM t0 s).isSome=true
 dh:∀ c,(getM h0 c).isSome=true->(getM h c).isSome=true
theorem OnWay.step{Ed:Int->Int->Prop}{ca t0 h0 t h:Tb}{r:Int->Nat}{c start:Int}{A B m:Nat}(w:Way Ed ca t0 r start A B)(o:OnWay Ed ca t0 h0 t h r c A B m){s:Int}(hs:getM ca c=some s):(getM t s=none->Moved Ed t0 h0 (putM t s c) (putM h c s) start A B)/\∀ c',getM t s=some c'->∃ m',m'<m/\OnWay Ed ca t0 h0 (putM t s c) (putM h c s) r c' A B m':=by
 have ed':∀ s' c',getM (putM t s c) s'=some c'->Ed s' c':=fun s' c' e=>by
  rw [zU] at e
  split at e
  . rename_i z
    rw [<-Wba e,<-z];exact w.ed c s hs
  . exact o.ed s' c' e
 obtain⟨i1,i2⟩:=w.inn c s hs;have hrm:r s=m:=by
  obtain⟨s',e,h⟩:=o.came;rw [hs] at e;rw [Wba e];exact h
 have ts:getM t s=getM t0 s:=o.same s #[0]
 have dh':∀ x,(getM h0 x).isSome=true->(getM (putM h c s) x).isSome=true:=fun x hx=>by
  rw [zU]
  split
  . rfl
  . exact o.dh x hx
 constructor
 . intro e
   have e0:s=start:=w.first c s hs (ts ▸ e);refine⟨ed',(o.mat.step).1 e,o.ot.put i1 i2,o.oh.put i2 i1,fun x=>?_,dh'⟩
   rw [zU]
   by_cases hx:s=x
   . rw [if_pos hx];exact⟨fun _=>.inr (hx.symm.trans e0),fun _=>rfl⟩
   . rw [if_neg hx,o.dt x]
     exact⟨.inl,fun z=>z.elim id fun y=>absurd (e0.trans y.symm) hx⟩
 . intro c' e
   obtain⟨s',h1,h2⟩:=w.back c s c' hs (ts ▸ e);refine⟨r s',#[0],ed',(o.mat.step).2 c' e,o.ot.put i1 i2,o.oh.put i2 i1,⟨s',h1,rfl⟩,fun x hx=>?_,fun x=>?_,dh'⟩
   . have:s≠x:=fun z=>by rw [<-z] at hx;omega
     rw [zU,if_neg this];exact o.same x #[0]
   . rw [zU]
     by_cases hx:s=x
     . rw [if_pos hx,<-hx,<-ts,e]
       exact⟨fun _=>rfl,fun _=>rfl⟩
     . rw [if_neg hx];exact o.dt x
structure Rea(Ed:Int->Int->Prop)(start:Int)(t h ca:Tb)(R:List Int)(A B:Nat):Prop where
 ed:∀ c s,getM ca c=some s->Ed s c
 nd:R.Nodup
 hd:R[0]?=some start
 inn:∀ x∈R,InR x A
 oc:TbOk ca B A
 len:R.length=ca.length+1
 from_:∀ c s,getM ca c=some s->s∈R
 by_:∀ (i:Nat) (x:Int),R[i]?=some x->i=0\/∃ c s,∃ j:Nat,getM t x=some c/\getM ca c=some s/\R[j]?=some s/\j<i
theorem Rea.start{Ed:Int->Int->Prop}{start:Int}{t h:Tb}{A B:Nat}(hs:InR start A):Rea Ed start t h [] [start] A B:=by
 refine⟨fun c s e=>(by cases e),by simp,rfl,fun x hx=>by rw [Ya6.mp hx];exact hs,TbOk.nil B A,rfl,fun c s e=>(by cases e),fun i x e=>?_⟩
 cases i with
 | zero=>exact .inl rfl
 | succ i=>simp at e
theorem Rea.more{Ed:Int->Int->Prop}{start:Int}{t h ca:Tb}{R:List Int}{A B:Nat}(r:Rea Ed start t h ca R A B)(m:Mat t h)(h0:getM t start=none){c s x:Int}(hs:s∈R)(he:Ed s c)(hc:InR c B)(hn:getM ca c=none)(hx:getM h c=some x)(oh:TbOk h B A):Rea Ed start t h (putM ca c s) (R++[x]) A B:=by
 have tx:getM t x=some c:=(m x c).mpr hx;have ix:InR x A:=(oh.get hx).2;have keep:∀ d,d≠c->getM (putM ca c s) d=getM ca d:=fun d hd=>by rw [zU,if_neg (WbM hd)]
 have nx:x∉R:=fun z=>by
  obtain⟨i,hi,e⟩:=Yam z;have e:R[i]?=some x:=by rw [YaQ hi,e]
  rcases r.by_ i x e with y|⟨d,s',j,g1,g2,_⟩
  . subst y
    rw [r.hd] at e;rw [<-Wba e,h0] at tx;cases tx
  . rw [tx] at g1
    rw [<-Wba g1,hn] at g2;cases g2
 refine⟨fun d s' e=>?_,WaP.mpr ⟨r.nd,by simp,fun a ha b hb z=>nx (by rw [Ya6.mp hb] at z;rw [<-z];exact ha)⟩,?_,fun y hy=>?_,r.oc.put hc (r.inn s hs),?_,fun d s' e=>?_,fun i y e=>?_⟩
 . rw [zU] at e
   split at e
   . rename_i z
     rw [<-Wba e,<-z];exact he
   . exact r.ed d s' e
 . rw [Yab (by have:=r.len;omega)];exact r.hd
 . rcases Ya3.mp hy with z|z
   . exact r.inn y z
   . rw [Ya6.mp z];exact ix
 . rw [zlE hn,YaS,r.len];rfl
 . rw [zU] at e
   split at e
   . exact Yai _ (by rw [<-Wba e];exact hs)
   . exact Yai _ (r.from_ d s' e)
 . by_cases hi:i<R.length
   . rw [Yab hi] at e
     rcases r.by_ i y e with z|⟨d,s',j,g1,g2,g3,g4⟩
     . exact .inl z
     . refine .inr ⟨d,s',j,g1,?_,?_,g4⟩
       . rw [keep d fun z=>by rw [z,hn] at g2;cases g2];exact g2
       . rw [Yab #[0]];exact g3
   . have hi':i=R.length:=by
      have:=(Ya8.mp e).1;rw [YaS,List.length_singleton] at this
      omega
     subst hi';rw [Yae (YaY _),WbD] at e;have e:x=y:=Wba e;subst e;obtain⟨j,hj,ej⟩:=Yam hs;refine .inr ⟨c,s,j,tx,by rw [zU,if_pos rfl],?_,hj⟩
     rw [Yab hj,YaQ hj,ej]
theorem Rea.seen{Ed:Int->Int->Prop}{start:Int}{t h ca:Tb}{R:List Int}{A B:Nat}(r:Rea Ed start t h ca R A B)(h0:getM t start=none){c s:Int}(hs:s∈R)(he:Ed s c)(hc:InR c B)(hn:getM ca c=none):Way Ed (putM ca c s) t (fun x=>R.idxOf x) start A B:=by
 have inR:∀ d s',getM (putM ca c s) d=some s'->s'∈R/\InR d B:=fun d s' e=>by
  rw [zU] at e
  split at e
  . rename_i z
    rw [<-Wba e,<-z];exact⟨hs,hc⟩
  . exact⟨r.from_ d s' e,(r.oc.get e).1⟩
 have ix:∀ (i:Nat) x,R[i]?=some x->R.idxOf x=i:=fun i x e=>by
  obtain⟨hi,e⟩:=Ya8.mp e;rw [<-e];exact r.nd.idxOf_getElem i hi
 have at_:∀ x∈R,getM t x≠none->∃ d s' j,getM t x=some d/\getM ca d=some s'/\R[j]?=some s'/\j<R.idxOf x:=fun x hx hne=>by
  obtain⟨i,hi,e⟩:=Yam hx;have e:R[i]?=some x:=by rw [YaQ hi,e]
  rcases r.by_ i x e with y|⟨d,s',j,g1,g2,g3,g4⟩
  . subst y
    rw [r.hd] at e;rw [<-Wba e] at hne;exact absurd h0 hne
  . exact⟨d,s',j,g1,g2,g3,by rw [ix i x e];exact g4⟩
 refine⟨fun d s' e=>⟨r.inn s' (inR d s' e).1,(inR d s' e).2⟩,fun d s' e=>?_,fun d s' c' e e'=>?_,fun d s' e e'=>?_⟩
 . rw [zU] at e
   split at e
   . rename_i z
     rw [<-Wba e,<-z];exact he
   . exact r.ed d s' e
 . obtain⟨d',s'',j,g1,g2,g3,g4⟩:=at_ s' (inR d s' e).1 (by rw [e'];simp)
   rw [e'] at g1;rw [<-Wba g1] at g2;refine⟨s'',?_,?_⟩
   . rw [zU,if_neg fun z=>by rw [<-z,hn] at g2;cases g2];exact g2
   . show R.idxOf s''<R.idxOf s'
     rw [ix j s'' g3];exact g4
 . rcases Classical.em (s'=start) with z|z
   . exact z
   . exfalso
     obtain⟨i,hi,ei⟩:=Yam (inR d s' e).1;have ei:R[i]?=some s':=by rw [YaQ hi,ei]
     rcases r.by_ i s' ei with y|⟨d',s'',j,g1,_⟩
     . subst y
       rw [r.hd] at ei;exact z (Wba ei).symm
     . rw [e'] at g1;cases g1
theorem Mat.free{t h:Tb}(m:Mat t h){c:Int}(e:getM h c=none):MatB t h c:=⟨fun s x _=>m s x,fun s z=>by rw [(m s c).mp z] at e;cases e⟩
theorem Rea.seeks{Ed:Int->Int->Prop}{start:Int}{t h ca:Tb}{R:List Int}{A B:Nat}(r:Rea Ed start t h ca R A B):∀ x∈R,x=start\/(getM t x).isSome=true:=fun x hx=>by
 obtain⟨i,hi,e⟩:=Yam hx;have e:R[i]?=some x:=by rw [YaQ hi,e]
 rcases r.by_ i x e with y|⟨d,s',j,g1,_⟩
 . subst y
   rw [r.hd] at e;exact .inl (Wba e).symm
 . exact .inr (by rw [g1];rfl)
theorem zkh{t:Tb}{k:Int}(h:(getM t k).isSome=true):k∈t.map (·.1):=by
 obtain⟨v,hv⟩:=Wam.mp h;exact Ya7.mpr ⟨(k,v),zeO hv,rfl⟩
theorem zfo(k j:List Key)(d:D):∀ ds:List #[33],getT (ds.map fun kv=>if kv.1=k then(kv.1,d) else kv) j=if j=k then(if(ds.any fun kv=>decide (kv.1=k))=true then some d else none) else getT ds j
 | []=>by split<;>rfl
 | (k', d') :: ds => by
  have ih:=zfo k j d ds;rw [Ya1,List.any_cons]
  by_cases e:k'=k
  . rw [if_pos e]
    by_cases ej:j=k
    . rw [if_pos ej]
      have:(k'=j):=e.trans ej.symm;subst this;rw [Jj]
      simp [e]
    . rw [if_neg ej,jW (fun z=>ej (z.symm.trans e)),jW (fun z=>ej (z.symm.trans e)),ih,if_neg ej]
  . rw [if_neg e]
    by_cases ej:j=k
    . rw [if_pos ej] at ih ⊢
      rw [jW (fun z=>e (z.trans ej)),ih,decide_eq_false e,Wbp]
    . rw [if_neg ej] at ih ⊢
      by_cases e2:k'=j
      . subst e2;rw [Jj,Jj]
      . rw [jW e2,jW e2,ih]
theorem zeT(k j:List Key)(d:D):∀ ds:List #[33],(ds.any fun kv=>decide (kv.1=k))=false->getT (ds++[(k,d)]) j=if j=k then some d else getT ds j
 | [], _ => by
  by_cases ej:j=k
  . subst ej;rw [if_pos rfl];exact Jj
  . rw [if_neg ej,List.nil_append,jW (fun z=>ej z.symm)]
 | (k', d') :: ds, h => by
  rw [List.any_cons,Bool.or_eq_false_iff] at h;have ih:=zeT k j d ds h.2;have e:¬k'=k:=of_decide_eq_false h.1;rw [List.cons_append]
  by_cases e2:k'=j
  . subst e2;rw [Jj,Jj,if_neg e]
  . rw [jW e2,jW e2,ih]
theorem zlo(ds:List #[33])(k j:List Key)(d:D):getT (putT ds k d) j=if j=k then some d else getT ds j:=by
 unfold putT
 split
 . rename_i h;rw [zfo,if_pos h]
 . rename_i h;exact zeT k j d ds (Bool.eq_false_iff.mpr h)
theorem zje{g:TG3}{f:Bool}{d:D}{ρ : Env3}{P:Env3->Prop}(h:∀ N:Env3->Prop,(∀ ρ',P ρ'->N ρ')->g f d ρ N):g f d ρ P:=h P fun _ z=>z
theorem Mat.symm{t h:Tb}(m:Mat t h):Mat h t:=fun s c=>(m c s).symm
theorem ziG{ds:List #[33]}{k:List Key}{d:D}(h:(ds.all fun p=>zq p.2)=true)(hd:zq d=true):((putT ds k d).all fun p=>zq p.2)=true:=by
 rw [Wa3] at h ⊢;intro p hp;unfold putT at hp
 split at hp
 . obtain⟨q,hq,rfl⟩:=Ya7.mp hp
   split
   . exact hd
   . exact h q hq
 . rcases Ya3.mp hp with z|z
   . exact h p z
   . rw [Ya6.mp z];exact hd
theorem zjs(ds:List #[33])(k:List Key)(d:D):(putT ds k d).length<=ds.length+1:=by
 unfold putT
 split
 . rw [YaR];omega
 . rw [YaS];simp
theorem zin:SeqAt.shaped (.tuple [.str "fixed", .str "barred"])=true:=#[3]
theorem zfA(x:Str):((([PyData.str "fixed", PyData.str "barred"]:List D).any fun y=>PyData.eqv y (.str x))=false)↔¬(x = "fixed"\/x = "barred"):=by
 have e:∀ a:Str,PyData.eqv (.str a) (.str x)=decide (x=a):=fun a=>by
  by_cases h:x=a
  . subst h;simp [PyData.eqv]
  . rw [decide_eq_false h]
    have:¬a=x:=fun z=>h z.symm
    simp [PyData.eqv,this]
 rw [List.any_cons,List.any_cons,List.any_nil,Wbn,e,e]
 by_cases h1:x = "fixed"
 . simp [h1]
 . by_cases h2:x = "barred"
   . simp [h2]
   . simp [h1,h2]
theorem zdE(V:List Win):jI (V.map dW)=(List.range V.length).map fun i=>PyData.tuple [PyData.int (i:Nat),dW (V.getD i #[59])]:=by
 unfold jI;rw [YaR];refine Yat fun i hi=>?_
 have hi:=Yba.mp hi;rw [YaP,Ya0,YaP,YaQ hi];rfl
theorem zht(ch:List #[23]):jI (ch.map dI)=(List.range ch.length).map fun i=>PyData.tuple [PyData.int (i:Nat),dI (ch.getD i [])]:=by
 unfold jI;rw [YaR];refine Yat fun i hi=>?_
 have hi:=Yba.mp hi;rw [YaP,Ya0,YaP,YaQ hi];rfl
theorem jQ{α : Type}{L:List α}{i:Nat}{d:α}(h:i<L.length):L.getD i d∈L:=by
 rw [YaP,YaQ h];exact Ya4 _
theorem za9{α : Type}{L:List α}{x:Int}{d:α}(h:InR x L.length):atI L x=some (L.getD x.toNat d)/\L.getD x.toNat d∈L:=by
 have hx:x.toNat<L.length:=by have:=h.1;have:=h.2;omega
 refine⟨?_,jQ hx⟩
 have:=jt (xs:=L) (j:=x.toNat) (YaQ hx);rw [show((x.toNat:Nat):Int)=x by have:=h.1;omega] at this
 rw [this,YaP,YaQ hx];rfl
def ja(rs:List Rule)(t k:Int):Prop:=∃ r∈rs,r.2.1=t/\(k=r.2.2↔r.1 = "barred")
def jY(rs:List Rule)(n:Nat)(ds:List #[33]):Prop:=∀ t k:Int,0<=k->k<(n:Int)->((getT ds (kk t k)).isSome=true↔ja rs t k)
theorem jY.nil(n:Nat):jY [] n []:=fun t k _ _=>⟨fun z=>(by cases z),fun⟨r,h,_⟩=>(by cases h)⟩
def j5(rs:List Rule)(r:Rule)(n j:Nat)(ds:List #[33]):Prop:=∀ t k:Int,0<=k->k<(n:Int)->((getT ds (kk t k)).isSome=true↔ja rs t k\/(k<(j:Int)/\r.2.1=t/\(k=r.2.2↔r.1 = "barred")))
theorem jY.part{rs:List Rule}{r:Rule}{n:Nat}{ds:List #[33]}(h:jY rs n ds):j5 rs r n 0 ds:=fun t k h0 h1=>by
 rw [h t k h0 h1];exact⟨.inl,fun z=>z.elim id fun y=>absurd y.1 #[0]⟩
theorem j5.whole{rs:List Rule}{r:Rule}{n:Nat}{ds:List #[33]}(h:j5 rs r n n ds):jY (rs++[r]) n ds:=fun t k h0 h1=>by
 rw [h t k h0 h1]
 constructor
 . rintro(⟨x,hx,e⟩|⟨_,e⟩)
   . exact⟨x,Yai _ hx,e⟩
   . exact⟨r,by simp,e⟩
 . rintro⟨x,hx,e⟩
   rcases Ya3.mp hx with z|z
   . exact .inl ⟨x,z,e⟩
   . rw [Ya6.mp z] at e;exact .inr ⟨h1,e⟩
theorem zii{a b c d:Int}(h:kk a b=kk c d):a=c/\b=d:=by
 unfold kk at h
 injection h with h1 h2
 injection h2 with h2 _
 exact⟨Sum.inl.inj h1,Sum.inl.inj h2⟩
theorem zfh(a b:Bool):(PyData.eqv (.bool a) (.bool b)=true)↔a=b:=by cases a<;>cases b<;>decide +kernel
theorem j5.put{rs:List Rule}{r:Rule}{n j:Nat}{ds:List #[33]}(h:j5 rs r n j ds)(e:PyData.eqv (.bool (decide (0+(j:Int)=r.2.2))) (.bool (decide (r.1 = "barred")))=true):j5 rs r n (j+1) (putT ds (kk r.2.1 (0+(j:Int))) (.bool true)):=fun t k h0 h1=>by
 have e':(j:Int)=r.2.2↔r.1 = "barred":=by
  have:=(zfh _ _).mp e;rw [WbC] at this;rw [decide_eq_decide] at this;exact this
 rw [zlo,WbC]
 by_cases z:kk t k=kk r.2.1 (j:Int)
 . rw [if_pos z]
   obtain⟨z1,z2⟩:=zii z;subst z2;exact⟨fun _=>.inr ⟨#[0],z1.symm,e'⟩,fun _=>rfl⟩
 . rw [if_neg z,h t k h0 h1]
   constructor
   . rintro(y|⟨y1,y2⟩)
     . exact .inl y
     . exact .inr ⟨#[0],y2⟩
   . rintro(y|⟨y1,y2,y3⟩)
     . exact .inl y
     . refine .inr ⟨?_,y2,y3⟩
       have:k≠(j:Int):=fun w=>z (by rw [w,y2])
       omega
theorem j5.skip{rs:List Rule}{r:Rule}{n j:Nat}{ds:List #[33]}(h:j5 rs r n j ds)(e:¬PyData.eqv (.bool (decide (0+(j:Int)=r.2.2))) (.bool (decide (r.1 = "barred")))=true):j5 rs r n (j+1) ds:=fun t k h0 h1=>by
 have e':¬((j:Int)=r.2.2↔r.1 = "barred"):=fun w=>e ((zfh _ _).mpr (by rw [WbC,decide_eq_decide];exact w))
 rw [h t k h0 h1]
 constructor
 . rintro(y|⟨y1,y2⟩)
   . exact .inl y
   . exact .inr ⟨#[0],y2⟩
 . rintro(y|⟨y1,y2,y3⟩)
   . exact .inl y
   . refine .inr ⟨?_,y2,y3⟩
     have:k≠(j:Int):=fun w=>e' (w ▸ y3)
     omega
def mayD(ds:List #[33])(v:Win)(t:Int):Bool:=if t<v.2.2.1 then false else match v.2.2.2 with
 | none=>!(getT ds (kk t v.1)).isSome
 | some x=>if x<t then false else !(getT ds (kk t v.1)).isSome
def mayP(rs:List Rule)(v:Win)(t:Int):Prop:=v.2.2.1<=t/\zbd t v.2.2.2/\¬ja rs t v.1
theorem zh5{rs:List Rule}{n:Nat}{ds:List #[33]}(hF:jY rs n ds){v:Win}(hv:InR v.1 n){t:Int}:mayD ds v t=true↔mayP rs v t:=by
 have hf:=hF t v.1 hv.1 hv.2;have e2:((!(getT ds (kk t v.1)).isSome)=true)↔¬ja rs t v.1:=by
  rw [<-hf];cases(getT ds (kk t v.1)).isSome<;>simp
 unfold mayD mayP
 by_cases h1:t<v.2.2.1
 . rw [if_pos h1]
   exact⟨fun z=>(by cases z),fun z=>absurd z.1 #[0]⟩
 . rw [if_neg h1]
   cases hl:v.2.2.2 with
   | none=>exact e2.trans ⟨fun z=>⟨#[0],True.intro,z⟩,fun z=>z.2.2⟩
   | some x=>
    dsimp only
    by_cases h2:x<t
    . rw [if_pos h2]
      exact⟨fun z=>(by cases z),fun z=>absurd (show t<=x from z.2.1) #[0]⟩
    . rw [if_neg h2]
      exact e2.trans ⟨fun z=>⟨#[0],show t<=x by omega,z⟩,fun z=>z.2.2⟩
def ChOk(rs:List Rule)(V:List Win)(ch:List #[23]):Prop:=∀ k,k<ch.length->∀ i,i<V.length->(((i:Nat):Int)∈ch.getD k []↔mayP rs (V.getD i #[59]) ((k:Int)+1))
theorem ChOk.snoc{rs:List Rule}{V:List Win}{ch:List #[23]}(h:ChOk rs V ch){row:List Int}(hr:∀ i,i<V.length->(((i:Nat):Int)∈row↔mayP rs (V.getD i #[59]) ((ch.length:Int)+1))):ChOk rs V (ch++[row]):=fun k hk i hi=>by
 rw [YaS,List.length_singleton] at hk;rw [YaP]
 by_cases e:k<ch.length
 . rw [Yab e,<-YaP];exact h k e i hi
 . have:k=ch.length:=#[0]
   subst this;rw [Yae (YaY _),WbD];exact hr i hi
def TvOk(m:Nat)(ch:List #[23])(k:Nat)(done:List Int)(tv:List #[23]):Prop:=∀ i,i<m->∀ j:Nat,((j:Int)∈tv.getD i []↔(j<k/\(i:Int)∈ch.getD j [])\/(j=k/\(i:Int)∈done))
theorem TvOk.nil(m:Nat)(ch:List #[23]):TvOk m ch 0 [] (List.replicate m []):=fun i hi j=>by
 rw [YaP,Yad,if_pos hi];exact⟨fun z=>(by cases z),fun z=>z.elim (fun y=>absurd y.1 (Wbe _)) fun y=>(by cases y.2)⟩
theorem TvOk.step{m:Nat}{ch:List #[23]}{k:Nat}{done:List Int}{tv:List #[23]}(h:TvOk m ch k done tv){x:Int}(hx:InR x tv.length)(hl:tv.length=m):TvOk m ch k (done++[x]) (tv.set x.toNat (tv.getD x.toNat []++[(k:Int)])):=fun i hi j=>by
 have hxl:x.toNat<tv.length:=by have:=hx.1;have:=hx.2;omega
 have hx0:=hx.1;rw [YaP,List.getElem?_set]
 by_cases e:x.toNat=i
 . subst e
   rw [if_pos rfl,if_pos hxl];show(j:Int)∈tv.getD x.toNat []++[(k:Int)]↔_;rw [Ya3,h x.toNat hi j,Ya6]
   constructor
   . rintro((y|y)|y)
     . exact .inl y
     . exact .inr ⟨y.1,Yai _ y.2⟩
     . exact .inr ⟨#[0],by rw [show((x.toNat:Nat):Int)=x by omega];simp⟩
   . rintro(y|⟨y1,y2⟩)
     . exact .inl (.inl y)
     . exact .inr #[0]
 . rw [if_neg e,<-YaP,h i hi j]
   constructor
   . rintro(y|y)
     . exact .inl y
     . exact .inr ⟨y.1,Yai _ y.2⟩
   . rintro(y|⟨y1,y2⟩)
     . exact .inl y
     . rcases Ya3.mp y2 with z|z
       . exact .inr ⟨y1,z⟩
       . have:=Ya6.mp z;omega
theorem TvOk.whole{m:Nat}{ch:List #[23]}{k:Nat}{row:List Int}{tv:List #[23]}(h:TvOk m ch k row tv)(e:ch.getD k []=row):TvOk m ch (k+1) [] tv:=fun i hi j=>by
 rw [h i hi j]
 constructor
 . rintro(y|⟨y1,y2⟩)
   . exact .inl ⟨#[0],y.2⟩
   . subst y1;exact .inl ⟨#[0],by rw [e];exact y2⟩
 . rintro(⟨y1,y2⟩|y)
   . by_cases z:j<k
     . exact .inl ⟨z,y2⟩
     . have:j=k:=#[0]
       subst this;exact .inr ⟨rfl,by rw [<-e];exact y2⟩
   . cases y.2
theorem TvOk.fin{m:Nat}{ch:List #[23]}{tv:List #[23]}(h:TvOk m ch ch.length [] tv):∀ i,i<m->∀ j,j<ch.length->((j:Int)∈tv.getD i []↔(i:Int)∈ch.getD j []):=fun i hi j hj=>by
 rw [h i hi j];exact⟨fun z=>z.elim (·.2) fun y=>(by cases y.2),fun z=>.inl ⟨hj,z⟩⟩
theorem zfy{t:Tb}{k v x:Int}(h:(getM t x).isSome=true):(getM (putM t k v) x).isSome=true:=by
 rw [zU]
 split
 . rfl
 . exact h
theorem zjK{ca:Tb}{done:List Int}{x:Int}(h:∀ c∈done,(getM ca c).isSome=true)(hn:¬(getM ca x).isSome=false):∀ c∈done++[x],(getM ca c).isSome=true:=fun c hc=>by
 rcases Ya3.mp hc with z|z
 . exact h c z
 . rw [Ya6.mp z]
   exact Bool.not_eq_false _ ▸ hn
theorem zb5{c:TT3}{ρ : Env3}{P R:Prop}(h:∀ Y N:Prop,(P->Y)->(R->N)->c ρ fun k=>if k=true then Y else N):c ρ fun k=>if k=true then P else R:=h P R id id
def z4:Win:=#[59]
def Zf(V:List Win)(T:Nat)(may:Nat->Nat->Prop)(d:D):Prop:=
 (∃ f:Nat->Nat,(∀ k,k<T->f k<V.length/\may k (f k))/\(∀ i j,i<T->j<T->f i=f j->i=j)/\(∀ i,i<V.length->(V.getD i z4).2.2.2≠none->∃ k,k<T/\f k=i)/\d=.tuple [.str "row", .list ((List.range T).map fun k=>.int (V.getD (f k) z4).1)])
 \/(∃ S:List Int,S.Nodup/\S.Pairwise (·<=·)/\(S≠[]/\S.length<64)/\(∀ x∈S,InR x V.length/\(V.getD x.toNat z4).2.2.2≠none)/\(∃ C:List Int,C.length<S.length/\∀ x∈S,∀ k,k<T->may k x.toNat->(k:Int)∈C)/\d=.tuple [.str "visits", .list (S.map fun x=>.tuple [.int (V.getD x.toNat z4).1,.int (V.getD x.toNat z4).2.1])])
 \/(∃ S:List Int,S.Nodup/\S.Pairwise (·<=·)/\(S≠[]/\S.length<64)/\(∀ x∈S,InR x T)/\(∃ C:List Int,C.length<S.length/\∀ x∈S,∀ i,i<V.length->may x.toNat i->(i:Int)∈C)/\d=.tuple [.str "turns", .list (S.map fun x=>.int (x+1))])
theorem zkH{V:List Win}{ch:List #[23]}{t h:Tb}(hm:Mat t h)(hh:TbOk h ch.length V.length)(hhe:∀ s c,getM h s=some c->c∈ch.getD s.toNat [])(hdu:∀ i,i<V.length->(V.getD i z4).2.2.2≠none->(getM t (i:Int)).isSome=true)(hd:∀ k:Int,0<=k->k<(ch.length:Int)->(getM h k).isSome=true) :
 (∀ k,k<ch.length->((getM h (0+(k:Int))).getD 0).toNat<V.length/\((((getM h (0+(k:Int))).getD 0).toNat:Nat):Int)∈ch.getD k [])/\(∀ i j,i<ch.length->j<ch.length->((getM h (0+(i:Int))).getD 0).toNat=((getM h (0+(j:Int))).getD 0).toNat->i=j)/\(∀ i,i<V.length->(V.getD i z4).2.2.2≠none->∃ k,k<ch.length/\((getM h (0+(k:Int))).getD 0).toNat=i)/\
 PyData.tuple [.str "row", .list ([]++(List.range ch.length).map fun i:Nat=>.int (V.getD ((getM h (0+(i:Int))).getD 0).toNat #[59]).1)]=PyData.tuple [.str "row", .list ((List.range ch.length).map fun k:Nat=>.int (V.getD ((getM h (0+(k:Int))).getD 0).toNat z4).1)]:=by
 have key:∀ k,k<ch.length->∃ y,getM h (0+(k:Int))=some y/\InR y V.length:=fun k hk=>by
  obtain⟨y,hy⟩:=Wam.mp (hd (0+(k:Int)) #[0] #[0])
  exact⟨y,hy,(hh.get hy).2⟩
 refine⟨fun k hk=>?_,fun i j hi hj e=>?_,fun i hi hdi=>?_,rfl⟩
 . obtain⟨y,hy,y0,y1⟩:=key k hk
   rw [hy];show y.toNat<_/\((y.toNat:Nat):Int)∈_;have:=hhe _ _ hy;rw [show(0+(k:Int)).toNat=k by omega] at this
   exact⟨#[0],by rw [show((y.toNat:Nat):Int)=y by omega];exact this⟩
 . obtain⟨y,hy,y0,y1⟩:=key i hi
   obtain⟨z,hz,z0,z1⟩:=key j hj;rw [hy,hz] at e;have e:y.toNat=z.toNat:=e;have e2:y=z:=#[0]
   subst e2;have a1:=(hm y _).mpr hy;rw [(hm y _).mpr hz] at a1;have:=Wba a1
   omega
 . obtain⟨c,hc⟩:=Wam.mp (hdu i hi hdi)
   have h1:=(hm _ _).mp hc;obtain⟨c0,c1⟩:=(hh.get h1).1;refine⟨c.toNat,#[0],?_⟩
   rw [show(0+((c.toNat:Nat):Int))=c by omega,h1]
   show(i:Int).toNat=i
   omega
theorem Zf.imp{V:List Win}{T:Nat}{may may':Nat->Nat->Prop}{d:D}(h:∀ k,k<T->∀ i,i<V.length->(may k i↔may' k i))(p:Zf V T may d):Zf V T may' d:=by
 rcases p with ⟨f,h1,h2,h3,h4⟩|⟨S,h1,h2,h3,h4,⟨C,h5,h6⟩,h7⟩|⟨S,h1,h2,h3,h4,⟨C,h5,h6⟩,h7⟩
 . exact .inl ⟨f,fun k hk=>⟨(h1 k hk).1,(h k hk _ (h1 k hk).1).mp (h1 k hk).2⟩,h2,h3,h4⟩
 . refine .inr (.inl ⟨S,h1,h2,h3,h4,⟨C,h5,fun x hx k hk hm=>h6 x hx k hk ((h k hk _ ?_).mpr hm)⟩,h7⟩)
   obtain⟨⟨a,b⟩,_⟩:=h4 x hx;omega
 . refine .inr (.inr ⟨S,h1,h2,h3,h4,⟨C,h5,fun x hx i hi hm=>h6 x hx i hi ((h _ ?_ i hi).mpr hm)⟩,h7⟩)
   obtain⟨a,b⟩:=h4 x hx;omega
theorem zgh(r:Rat2):Plain 1 (dQ r):=Plain.tuple fun d hd=>by
 rcases Wbm.mp hd with rfl|hd
 . exact Plain.int _
 . rw [Ya6.mp hd];exact Plain.int _
theorem zkb(p:Rat2×Rat2):Plain 2 (dP p):=Plain.tuple fun d hd=>by
 rcases Wbm.mp hd with rfl|hd
 . exact zgh _
 . rw [Ya6.mp hd];exact zgh _
theorem zhD(l:List #[39]):Plain 3 (dPs l):=Plain.list fun d hd=>by
 obtain⟨s,_,rfl⟩:=Ya7.mp hd;exact zkb s
def posC(row:List Int)(c:Int)(k:Nat):List Nat:=(List.range k).filter fun i=>decide (row.getD i 0=c)
theorem zay{row:List Int}{c:Int}:∀ k,k<=row.length->((posC row c k).length:Int)=cnt (row.take k) c
 | 0,_=>rfl
 | k + 1, h => by
  have ih:=zay (row:=row) (c:=c) k #[0]
  unfold posC at ih ⊢;rw [List.range_succ,List.filter_append,YaS,zbZ #[0]]
  by_cases e:row.getD k 0=c
  . rw [YaM,decide_eq_true e,if_pos rfl,if_pos e,List.filter_nil,List.length_singleton];omega
  . rw [YaM,decide_eq_false e,if_neg #[1],if_neg e,List.filter_nil,List.length_nil];omega
theorem zbl{row:List Int}{c:Int}{k i:Nat}:i∈posC row c k↔i<k/\row.getD i 0=c:=by
 unfold posC;rw [Ya9,Yba,decide_eq_true_eq]
def upTo(j:Nat):List Int:=(List.range j).map fun i:Nat=>(i:Int)+1
theorem zeF(j:Nat):(upTo j).length=j:=by unfold upTo;simp
theorem ze0{j:Nat}{x:Int}:x∈upTo j↔1<=x/\x<=(j:Int):=by
 unfold upTo;rw [Ya7]
 constructor
 . rintro⟨i,hi,rfl⟩
   have:=Yba.mp hi
   omega
 . intro h
   exact⟨(x - 1).toNat,Yba.mpr #[0],#[0]⟩
theorem zio(j:Nat):(upTo j).Nodup:=by
 unfold upTo;rw [Waf,WaR];exact(Wax (n:=j)).imp fun h=>by omega
structure Given(V:List Win)(row:List Int)(f:Nat->Win):Prop where
 at_:∀ k,k<row.length->f k∈V/\(f k).1=row.getD k 0/\(f k).2.2.1<=(k:Int)+1/\zbd ((k:Int)+1) (f k).2.2.2
 inj:∀ i j,i<row.length->j<row.length->f i=f j->i=j
 due:∀ v∈V,v.2.2.2≠none->∃ k,k<row.length/\f k=v
theorem zeJ{T:Int}{V:List Win}(ok:OkVs T V){row:List Int}{f:Nat->Win}(g:Given V row f){v:Win}(hv:v∈V){x:Int}(hx:v.2.2.2=some x){k:Nat}(hk:k<=row.length)(hxk:x<=(k:Int)\/k=row.length):v.2.1<=cnt (row.take k) v.1:=by
 have h1:=(ok.one v hv).1;have key:∀ i:Int,1<=i->i<=v.2.1->∃ p,p<k/\row.getD p 0=v.1/\(f p).2.1=i:=fun i i1 i2=>by
  obtain⟨u,hu,e1,e2,hkl⟩:∃ u∈V,u.1=v.1/\u.2.1=i/\kl T u<=kl T v:=by
   by_cases e:i=v.2.1
   . exact⟨v,hv,rfl,e.symm,WbJ _⟩
   . obtain⟨u,hu,eu⟩:=ok.pre v hv i i1 #[0]
     have a1:(keyW u).1=v.1:=congrArg Prod.fst eu;have a2:(keyW u).2=i:=congrArg Prod.snd eu;have a1:u.1=v.1:=a1;have a2:u.2.1=i:=a2;exact⟨u,hu,a1,a2,(ok.ord u hu v hv a1 #[0]).2⟩
  have hvk:kl T v=x:=by unfold kl;rw [hx];rfl
  have hxT:=ok.top v hv x hx;have hul:∃ y,u.2.2.2=some y/\y<=x:=by
   cases e:u.2.2.2 with
   | none => have : kl T u = T + 1 := by unfold kl; rw [e]; rfl
             omega
   | some y => have : kl T u = y := by unfold kl; rw [e]; rfl
               exact⟨y,rfl,#[0]⟩
  obtain⟨y,hy,hyx⟩:=hul;obtain⟨p,hp,ep⟩:=g.due u hu (by rw [hy];nofun)
  obtain⟨_,g2,_,g4⟩:=g.at_ p hp;rw [ep] at g2 g4;rw [hy] at g4;have g4:(p:Int)+1<=y:=g4;refine⟨p,?_,g2.symm.trans e1,by rw [ep];exact e2⟩
  rcases hxk with z|z
  . omega
  . omega
 have hl:=zaZ (L:=upTo v.2.1.toNat) (M:=(posC row v.1 k).map fun p=>(f p).2.1) (zio _) fun i hi=>by
  obtain⟨i1,i2⟩:=ze0.mp hi;obtain⟨p,hp,e1,e2⟩:=key i i1 #[0]
  exact Ya7.mpr ⟨p,zbl.mpr ⟨hp,e1⟩,e2⟩
 rw [zeF,YaR] at hl;have:=zay (row:=row) (c:=v.1) k hk
 omega
theorem zlm{T:Int}{V:List Win}(ok:OkVs T V){row:List Int}{f:Nat->Win}(g:Given V row f):zaX V row:=by
 refine⟨fun k hk=>?_,fun v hv hd=>?_⟩
 . obtain⟨j,hj⟩:∃ j:Nat,(j:Int)=cnt (row.take (k+1)) (row.getD k 0):=⟨_,zay (row:=row) (c:=row.getD k 0) (k+1) #[0]⟩
   have hstep:=zbZ (r:=row) (k:=k) hk (row.getD k 0);rw [if_pos rfl] at hstep;have hpl:=zay (row:=row) (c:=row.getD k 0) (k+1) #[0]
   have hj1:1<=j:=by
    have:=zay (row:=row) (c:=row.getD k 0) k #[0]
    omega
   obtain⟨i,hi,hic,hin⟩:∃ i,i<k+1/\row.getD i 0=row.getD k 0/\(j:Int)<=(f i).2.1:=by
    rcases Classical.em (∃ i,i<k+1/\row.getD i 0=row.getD k 0/\(j:Int)<=(f i).2.1) with z|z
    . exact z
    . exfalso
      have nd:((posC row (row.getD k 0) (k+1)).map fun p=>(f p).2.1).Nodup:=by
       rw [Waf,WaR];have:(posC row (row.getD k 0) (k+1)).Pairwise (· < ·):=List.Pairwise.filter _ (Wax (n:=k+1));refine this.imp_of_mem fun {a b} ha hb hab e=>?_
       obtain⟨a1,a2⟩:=zbl.mp ha;obtain⟨b1,b2⟩:=zbl.mp hb;obtain⟨p1,p2,_⟩:=g.at_ a #[0]
       obtain⟨q1,q2,_⟩:=g.at_ b #[0]
       have:=g.inj a b #[0] #[0] (zcq ok.nd p1 q1 (by unfold keyW;rw [p2,q2,a2,b2,e]))
       omega
      have hl:=zaZ (M:=upTo (j - 1)) nd fun x hx=>by
       obtain⟨p,hp,rfl⟩:=Ya7.mp hx;obtain⟨a1,a2⟩:=zbl.mp hp;have o:=(ok.one _ (g.at_ p #[0]).1).1
       have:¬(j:Int)<=(f p).2.1:=fun y=>z ⟨p,a1,a2,y⟩
       exact ze0.mpr ⟨o,#[0]⟩
      rw [zeF,YaR] at hl
      omega
   obtain⟨u1,u2,u3,u4⟩:=g.at_ i #[0]
   obtain⟨v,hv,ev,hop⟩:∃ v∈V,keyW v=(row.getD k 0,(j:Int))/\v.2.2.1<=(f i).2.2.1:=by
    by_cases e:(f i).2.1=(j:Int)
    . exact⟨f i,u1,by unfold keyW;rw [u2,hic,e],WbJ _⟩
    . obtain⟨v,hv,ev⟩:=ok.pre (f i) u1 j #[0] #[0]
      rw [u2,hic] at ev;have a1:(keyW v).1=row.getD k 0:=congrArg Prod.fst ev;have a2:(keyW v).2=(j:Int):=congrArg Prod.snd ev;have a1:v.1=row.getD k 0:=a1;have a2:v.2.1=(j:Int):=a2;exact⟨v,hv,ev,(ok.ord v hv (f i) u1 (by rw [a1,u2,hic]) #[0]).1⟩
   refine⟨v,hv,by rw [ev];unfold keyR;rw [hj],#[0],?_⟩
   cases hl:v.2.2.2 with
   | none=>exact True.intro
   | some x=>
    show(k:Int)+1<=x
    rcases Int.lt_or_le x ((k:Int)+1) with z|z
    . exfalso
      have:=zeJ ok g hv hl (k:=k) #[0] (.inl #[0])
      have a1:(keyW v).1=row.getD k 0:=congrArg Prod.fst ev;have a2:(keyW v).2=(j:Int):=congrArg Prod.snd ev;have a1:v.1=row.getD k 0:=a1;have a2:v.2.1=(j:Int):=a2;rw [a1,a2] at this
      omega
    . exact z
 . cases hl:v.2.2.2 with
   | none=>exact absurd hl hd
   | some x=>
    have:=zeJ ok g hv hl (k:=row.length) (YaY _) (.inr rfl);rwa [List.take_length] at this
theorem za7:("fixed" : Str)≠"barred":=#[3]
theorem zmU{V:List Win}(nd:V.Nodup){i j:Nat}(hi:i<V.length)(hj:j<V.length)(e:V.getD i z4=V.getD j z4):i=j:=by
 rw [YaP,YaP,YaQ hi,YaQ hj] at e;exact(Wa0 nd).mp e
theorem zgx{V:List Win}{v:Win}(h:v∈V):∃ i,i<V.length/\V.getD i z4=v:=by
 obtain⟨i,hi,e⟩:=Yam h;exact⟨i,hi,by rw [YaP,YaQ hi];exact e⟩
theorem zdu{l:#[31]}(hok:okS l):∀ r∈quoB (zl l) l,r.length=many l/\∀ x∈r,Bits 1000 x:=fun r hr=>⟨zbq hok hr,fun x hx=>by
 have hpp:=zaz hok;have h1:=ZJ hok hpp r hr x hx;have h2:=zkm hok #[0] r hr x hx
 have h3:tot l*zl l<=60*zl l:=Ybe hok.2.2 #[0]
 exact(((Bits.lit (x:=60) 64).mul (za3 hok)).le (y:=x) #[0]).mono #[1]⟩
theorem zjN{l:#[31]}(hok:okS l){bs:List #[39]}(hB:okB (many l) bs)(ho:∀ p∈bs,okQ p.1/\okQ p.2){W:List (List Win)}(hW:IsWs l bs W):∀ row':List Int,zbk (many l) (tot l).toNat row'->(kpP (zl l) (many l) (quoB (zl l) l) row' bs↔zaX W.flatten row'):=fun row' hr'=>
 (zkt (Jp hok) (zaz hok) (zgi hok) hB.1 ho fun t ht=>by
  have htn:=jb fun s hs=>(hok.2.1 s hs).1
  have hqo:=j7 hok;have hr1:=hr'.1;have hmem:(quo l).getD (t+1) []∈quo l:=by
   rw [YaP,YaQ #[0]];exact Ya4 _
  have h2:=zbq hok (b:=bot l) hmem;unfold jl subL;rw [YaR,Wbf,J3,h2,Nat.min_self]).symm.trans ((zmE hok hB ho hr' hW.1 hW.2).trans (zkL hok hW hr').symm)
theorem zdv{α : Type}{g:TG3}{tt:TT3}{te:TE3}{f:Bool}(enc:α->D)(R:Env3->Prop):∀ (xs:List α),(∀ x∈xs,∀ ρ fa acc (K:Bool->List D->Env3->Prop),R ρ->(∀ ρ' (v:Int),R ρ'->K fa (acc++[PyData.int v]) ρ')->
 g f (enc x) ρ fun ρ'=>tt ρ' fun k=>if k=true then te ρ' fun c=>asS c fun fy y=>K (fa&&fy) (acc++[y]) ρ' else K fa acc ρ')->∀ fa acc ρ (Q:Bool->List D->Prop),R ρ->(∀ vs:List Int,vs.length=xs.length->Q fa (acc++vs.map PyData.int))->jm g tt te f (xs.map enc) fa acc ρ Q
 | [], _, fa, acc, ρ, Q, _, q => by
  have:=q [] rfl;rw [Wby,Yao] at this;exact this
 | x :: xs, s, fa, acc, ρ, Q, hR, q => s x YaV ρ fa acc (fun fa acc ρ' => jm g tt te f (xs.map enc) fa acc ρ' Q) hR
  fun ρ' v hR'=>zdv enc R xs (fun y hy=>s y (YaT _ hy)) fa (acc++[PyData.int v]) ρ' Q hR' fun vs hvs=>by
   have:=q (v::vs) (by rw [List.length_cons,List.length_cons,hvs])
   rw [Yag];exact this
theorem zdT:SeqAt.shaped (.str "fixed")=true:=#[3]
theorem zcS:SeqAt.shaped (.str "barred")=true:=#[3]
theorem zmQ{rs:List Rule}(h:txtR rs):Plain 3 (.list (rs.map dRl)):=(Plain.list (n:=1) fun d hd=>by
 obtain⟨r,hr,rfl⟩:=Ya7.mp hd;refine Plain.tuple (n:=0) fun x hx=>?_
 rcases Wbm.mp hx with rfl|hx
 . have:=h r hr
   unfold SeqAt.shaped at this;rw [Yak] at this;exact⟨this.1,by simp [PyData.depth]⟩
 . rcases Wbm.mp hx with rfl|hx
   . exact Plain.int _
   . rw [Ya6.mp hx];exact Plain.int _).mono #[1]
theorem zlH{l:#[31]}(h:okS l):1<=tot l:=by
 obtain⟨⟨h1,_⟩,h2,_⟩:=h;cases l with
 | nil=>simp at h1
 | cons a r=>
  have:=zev (fun t ht=>(h2 t ht).1) (YaV (a:=a) (l:=r))
  have:=(h2 a YaV).1
  omega
def z7(B:Int)(path:List Int)(above:Rat2)(j:Int)(t:Nat):Bool:=decide ((j*B - path.getD t 0)*above.2<=above.1*B)
def zX(B:Int)(path:List Int)(below:Rat2)(j:Int)(t:Nat):Bool:=decide ((path.getD t 0 - j*B+B)*below.2 > below.1*B)
def winL(B:Int)(path:List Int)(p:Rat2×Rat2)(j:Int):Int×Option Int:=winP path.length (z7 B path p.2 j) (zX B path p.1 j)
theorem zlR{b x j:Int}{r:Rat2}(hr:0<r.2):j*b - zr b r<=x↔(j*b - x)*r.2<=r.1*b:=by
 unfold zr
 constructor
 . intro h
   exact(Waz hr).mp #[0]
 . intro h
   have:=(Waz hr).mpr h
   omega
theorem zlw{b x j:Int}{r:Rat2}(hr:0<r.2):(j - 1)*b+zr b r+1<=x↔(x - j*b+b)*r.2 > r.1*b:=by
 unfold zr;have e:(j - 1)*b=j*b - b:=by rw [WbH,WbI]
 rw [e]
 constructor
 . intro h
   exact(Int.ediv_lt_iff_lt_mul hr).mp #[0]
 . intro h
   have:=(Int.ediv_lt_iff_lt_mul hr).mpr h
   omega
theorem cross{b c x y:Int}(hb:0<b)(hc:0<c)(e:x*c=y*b)(j u v:Int):((j*b - x)*u<=v*b↔(j*c - y)*u<=v*c)/\((x - j*b+b)*u > v*b↔(y - j*c+c)*u > v*c):=by
 have e1:(j*b - x)*u*c=(j*c - y)*u*b:=by
  rw [WbH,WbH,WbH,WbH];have:x*u*c=y*u*b:=by rw [WaJ,e,WaJ]
  rw [this]
  congr 1
  ac_rfl
 have e2:(x - j*b+b)*u*c=(y - j*c+c)*u*b:=by
  have h1:(x - j*b+b)*u*c=b*u*c - (j*b - x)*u*c:=by
   rw [<-WbH,<-WbH];congr 2;omega
  have h2:(y - j*c+c)*u*b=c*u*b - (j*c - y)*u*b:=by
   rw [<-WbH,<-WbH];congr 2;omega
  rw [h1,h2,e1]
  congr 1
  ac_rfl
 have e3:v*b*c=v*c*b:=by ac_rfl
 constructor
 . constructor
   . intro h
     have:=Ybe h (show 0<=c by omega)
     rw [e1,e3] at this;exact YaF this hb
   . intro h
     have:=Ybe h (show 0<=b by omega)
     rw [<-e1,<-e3] at this;exact YaF this hc
 . constructor
   . intro h
     have:=Int.mul_lt_mul_of_pos_right h hc;rw [e2,e3] at this;exact Int.lt_of_mul_lt_mul_right this #[0]
   . intro h
     have:=Int.mul_lt_mul_of_pos_right h hb;rw [<-e2,<-e3] at this;exact Int.lt_of_mul_lt_mul_right this #[0]
theorem zdi{b c:Int}{q q':List #[23]}(e:q.map (List.map (· * c))=q'.map (List.map (· * b)))(k t:Nat):(zd q k).getD t 0*c=(zd q' k).getD t 0*b:=by
 have h:=congrArg (fun z=>((z.getD t []).getD k 0)) e
 unfold zd;simp only [YaP,Ya0] at h ⊢;cases h1:q[t]? <;> cases h2:q'[t]? <;> simp [h1,h2] at h ⊢
 . rename_i r
   cases h3:r[k]? <;> simp [h3] at h ⊢
   exact h
 . rename_i r
   cases h3:r[k]? <;> simp [h3] at h ⊢
   exact h
 . rename_i r r'
   cases h3:r[k]? <;> cases h4:r'[k]? <;> simp [h3,h4] at h ⊢ <;> exact h
theorem zjG{b c:Int}{q q':List #[23]}(hb:0<b)(hc:0<c)(e:q.map (List.map (· * c))=q'.map (List.map (· * b)))(hl:q.length=q'.length)(h1:1<=q.length){p:Rat2×Rat2}(hp:okQ p.1/\okQ p.2)(k:Nat)(j:Int):winB b (zd q k) (zr b p.1,zr b p.2) j=winL c (zd q' k) p j:=by
 have l1:(zd q k).length=q.length:=by unfold zd;rw [YaR]
 have l2:(zd q' k).length=q.length:=by unfold zd;rw [YaR,hl]
 unfold winB winL winP;rw [l1,l2];have f1:zk q.length (fun t=>decide (j*b - (zr b p.1,zr b p.2).2<=(zd q k).getD t 0))=zk q.length (z7 c (zd q' k) p.2 j):=zgj h1 fun t _ _=>by
  unfold z7;rw [decide_eq_decide];exact(zlR hp.2.1).trans (cross hb hc (zdi e k t) j _ _).1
 have f2:zk q.length (fun t=>decide ((j - 1)*b+(zr b p.1,zr b p.2).1+1<=(zd q k).getD t 0))=zk q.length (zX c (zd q' k) p.1 j):=zgj h1 fun t _ _=>by
  unfold zX;rw [decide_eq_decide];exact(zlw hp.1.1).trans (cross hb hc (zdi e k t) j _ _).2
 rw [f1,f2]
theorem zmA(l:#[31])(b:Int)(k:Nat):(zd (quoB b l) k).getD 0 0=0:=by
 obtain⟨r,hr⟩:=zdj b l;unfold zd;rw [hr];unfold zeros;simp only [Ya1,List.getD_cons_zero,YaP,Yad]
 split<;>rfl
theorem q10:okQ (10,1):=⟨#[1],Bits.lit (x:=10) 1200,Bits.lit (x:=1) 1200⟩
theorem i10:inQ (10,1):=⟨#[1],#[1]⟩
theorem zd0(a b:Int):PyData.eqv (.int a) (.int b)=true↔a=b:=by
 simp [PyData.eqv]
theorem zfQ:∀ {a b:List K2},a.Perm b->a.Pairwise (fun x y=>lex2 x y=true)->b.Pairwise (fun x y=>lex2 x y=true)->a=b
 | [],b,hp,_,_=>(List.Perm.nil_eq hp)
 | x::a,[],hp,_,_=>by cases(List.Perm.eq_nil hp)
 | x :: a, y :: b, hp, ha, hb => by
  have hxy:x=y:=by
   rcases Wbm.mp (hp.mem_iff.mp YaV) with z|z
   . exact z
   . rcases Wbm.mp (hp.mem_iff.mpr YaV) with w|w
     . exact w.symm
     . have h1:=of_decide_eq_true ((YaC.mp hb).1 x z)
       have h2:=of_decide_eq_true ((YaC.mp ha).1 y w)
       omega
  subst hxy;rw [zfQ hp.cons_inv (YaC.mp ha).2 (YaC.mp hb).2]
theorem zjn(kk:List K2):Plain 2 (.list (kk.map dK2)):=Plain.list fun d hd=>by
 obtain⟨k,_,rfl⟩:=Ya7.mp hd;exact Plain.tuple fun d hd=>by
  rcases Wbm.mp hd with rfl|hd
  . exact Plain.int _
  . rw [Ya6.mp hd];exact Plain.int _
theorem zcX{α : Type}{g:TG3}{tt:TT3}{te:TE3}{f:Bool}(enc out:α->D)(keep:α->Bool)(R:Env3->Prop):∀ (xs:List α),(∀ x∈xs,∀ ρ fa acc (K:Bool->List D->Env3->Prop),R ρ->(∀ fb ρ',R ρ'->K fb (if keep x=true then acc++[out x] else acc) ρ')->
 g f (enc x) ρ fun ρ'=>tt ρ' fun k=>if k=true then te ρ' fun c=>asS c fun fy y=>K (fa&&fy) (acc++[y]) ρ' else K fa acc ρ')->∀ fa acc ρ (Q:Bool->List D->Prop),R ρ->(∀ fb,Q fb (acc++(xs.filter keep).map out))->jm g tt te f (xs.map enc) fa acc ρ Q
 | [],_,fa,acc,ρ,Q,_,q=>by show Q fa acc;simpa using q fa
 | x::xs,s,fa,acc,ρ,Q,hR,q=>s x YaV ρ fa acc (fun fa acc ρ'=>jm g tt te f (xs.map enc) fa acc ρ' Q) hR fun fb ρ' hR'=>
  zcX enc out keep R xs (fun y hy=>s y (YaT _ hy)) fb _ ρ' Q hR' (fun fc=>by
   have q:=q fc;rw [YaM] at q;cases hk:keep x with
   | true=>rw [hk] at q;simpa using q
   | false=>rw [hk] at q;simpa using q)
theorem zi1{V:List Win}{v:Win}(nd:V.Nodup)(hv:v∈V):V.filter (fun u=>decide (u=v))=[v]:=by
 induction V with
 | nil=>cases hv
 | cons a r ih=>
  have hc:=YaB.mp nd
  rcases Wbm.mp hv with z|z
  . subst z
    rw [List.filter_cons_of_pos (by simp),List.filter_eq_nil_iff.mpr fun u hu=>by
     have huv:¬u=v:=fun e=>hc.1 (e ▸ hu)
     simpa using huv]
  . have hav:¬a=v:=fun e=>hc.1 (e ▸ z)
    rw [List.filter_cons_of_neg (by simpa using hav),ih hc.2 z]
theorem zgI(a b c d:Int):PyData.eqv (.tuple [.int a,.int b]) (.tuple [.int c,.int d])=true↔a=c/\b=d:=by
 simp [PyData.eqv,PyData.eqvAll]
theorem zk4(a b c d:D):cut [a,b,c,d] none (some 2)=[a,b]:=rfl
theorem zdn{n:Nat}{k:Int}{W:Int->Int×Option Int}:∀ {ws:List Win} {j:Int},IsW n k W j ws->ws.Pairwise (fun a b=>lex2 (a.1,a.2.1) (b.1,b.2.1)=true)/\∀ w∈ws,w.1=k/\j<=w.2.1
 | [],_,_=>⟨.nil,fun w h=>by cases h⟩
 | w :: r, j, h => by
  obtain⟨h1,h2⟩:=zdn h.2.2;have e:=h.2.1;refine⟨YaC.mpr ⟨fun u hu=>?_,h1⟩,fun u hu=>?_⟩
  . obtain⟨a,b⟩:=h2 u hu
    rw [e];exact decide_eq_true (Or.inr ⟨a.symm,by show j<u.2.1;omega⟩)
  . rcases Wbm.mp hu with z|z
    . rw [z,e];exact⟨rfl,WbJ _⟩
    . obtain⟨a,b⟩:=h2 u z;exact⟨a,#[0]⟩
theorem zmt{l:#[31]}{bs:List #[39]}{W:List (List Win)}(h:IsWs l bs W):(W.flatten.map fun v=>(v.1,v.2.1)).Pairwise (fun a b=>lex2 a b=true):=by
 have hg:∀ k (hk:k<W.length),W.getD k []=W[k]:=fun k hk=>by rw [YaP,YaQ hk];rfl
 have h2:∀ k (hk:k<W.length),W[k].Pairwise (fun a b=>lex2 (a.1,a.2.1) (b.1,b.2.1)=true)/\∀ w∈W[k],w.1=(k:Int)/\1<=w.2.1:=fun k hk=>by
  have:=zdn (h.2 k (by rw [<-h.1];exact hk))
  rwa [hg k hk] at this
 rw [WaR,List.pairwise_flatten];refine⟨fun ws hws=>?_,Wah.mpr fun i j hi hj hij a ha b hb=>?_⟩
 . obtain⟨k,hk,rfl⟩:=Yam hws
   exact(h2 k hk).1
 . have e1:=((h2 i hi).2 a ha).1
   have e2:=((h2 j hj).2 b hb).1;exact decide_eq_true (Or.inl (by show a.1<b.1;omega))
theorem zer{l:#[31]}(hok:okS l){bs:List #[39]}(hB:okB (many l) bs)(ho:∀ p∈bs,okQ p.1/\okQ p.2){W:List (List Win)}(h:IsWs l bs W):∀ ws∈W,(ws.length:Int)<=tot l+11:=by
 have hql:=j7 hok;have htn:=jb fun s hs=>(hok.2.1 s hs).1
 have hbp:=Jp hok;have hm:=j6 hok;intro ws hws;obtain⟨k,hk,e⟩:=Yam hws;have hk':k<many l:=by rw [<-h.1];exact hk
 have hIs:=h.2 k hk';have e2:W.getD k []=ws:=by rw [YaP,YaQ hk];exact e
 rw [e2] at hIs;have hkb:k<bs.length:=by rw [hB.1];exact hk'
 have er:(zx (bot l) bs).getD k (0,0)=(zr (bot l) bs[k].1,zr (bot l) bs[k].2):=by
  rw [YaP];unfold zx;rw [Ya0,YaQ hkb];rfl
 have z:=hB.2 bs[k] (Ya4 hkb);have y:=ho bs[k] (Ya4 hkb);have r1:0<=zr (bot l) bs[k].1:=Wbh (YaK z.1.1 #[0]) (by have:=y.1.1;omega)
 have r2:0<=zr (bot l) bs[k].2:=Wbh (YaK z.2.1 #[0]) (by have:=y.2.1;omega)
 have r3:zr (bot l) bs[k].2<=10*bot l:=by
  refine WaC y.2.1 ?_
  have h1:bs[k].2.1*bot l<=10*bs[k].2.2*bot l:=Ybe z.2.2 #[0]
  have e1:10*bs[k].2.2*bot l=10*bot l*bs[k].2.2:=by ac_rfl
  omega
 have htb:0<=tot l*bot l:=YaK htn #[0]
 have eM:(tot l+10)*bot l=tot l*bot l+10*bot l:=WbG ..;have hp:∀ t,(zd (quo l) k).getD t 0+zr (bot l) bs[k].2<=(tot l+10)*bot l:=fun t=>by
  have:(zd (quo l) k).getD t 0<=tot l*bot l:=by
   rw [YaP];cases ht:#[29][t]? with
   | none=>show(0:Int)<=_;omega
   | some x=>
    show x<=_
    unfold zd at ht;rw [Ya0] at ht;obtain⟨r,hr,rfl⟩:=YaJ.mp ht;rw [YaP];cases hx:r[k]? with
    | none=>show(0:Int)<=_;omega
    | some x=>
     have h1:=ZJ hok hbp r (Yah hr) x (Yah hx);show x<=_
     omega
  omega
 have hpl:(zd (quo l) k).length=(quo l).length:=by unfold zd;rw [YaR]
 rw [er] at hIs;have:=IsW.len (M:=tot l+10+1) (fun i hi=>zbn (room:=(zr (bot l) bs[k].1,zr (bot l) bs[k].2)) hbp (by rw [hpl];omega) hp r2 r1 i (by rw [hpl];exact hi)) hIs #[0]
 omega
theorem zhC{l:#[31]}(hok:okS l){bs:List #[39]}(hB:okB (many l) bs)(ho:∀ p∈bs,okQ p.1/\okQ p.2){W:List (List Win)}(h:IsWs l bs W):∀ ws∈W,ws.length<=71:=fun ws hws=>by
 have:=zer hok hB ho h ws hws;have:=hok.2.2
 omega
theorem zkM{l:#[31]}(hok:okS l){bs:List #[39]}(hB:okB (many l) bs)(ho:∀ p∈bs,okQ p.1/\okQ p.2){W:List (List Win)}(h:IsWs l bs W):∀ v∈W.flatten,((0<=v.1/\v.1<8)/\1<=v.2.1/\v.2.1<80)/\v.2.2.1<=100/\∀ x,v.2.2.2=some x->0<=x:=fun v hv=>by
 have hm:=j6 hok;have hql:=j7 hok;have htn:=jb fun s hs=>(hok.2.1 s hs).1
 have h60:=hok.2.2;obtain⟨k,hk,i,hi,rfl⟩:=h.get hv;have hkW:k<W.length:=by rw [h.1];exact hk
 have h71:(W.getD k []).length<=71:=by
  rw [YaP,YaQ hkW];exact zhC hok hB ho h _ (Ya4 hkW)
 have hcl:(zd (quo l) k).length=(quo l).length:=by unfold zd;rw [YaR]
 refine⟨⟨⟨by show(0:Int)<=(k:Int);omega,by show(k:Int)<8;omega⟩,by show(1:Int)<=1+(i:Int);omega,by show(1:Int)+(i:Int)<80;omega⟩,?_,fun x hx=>?_⟩
 . show(winB (bot l) #[29] _ _).1<=100
   unfold winB winP;obtain⟨_,a2,_⟩:=z9 (n:=(zd (quo l) k).length) #[0] (fun t=>decide ((1+(i:Int))*bot l - ((zx (bot l) bs).getD k (0,0)).2<=(zd (quo l) k).getD t 0))
   show((zk _ _:Nat):Int)<=100
   omega
 . have hx:(winB (bot l) #[29] _ _).2=some x:=hx
   unfold winB winP at hx;dsimp only at hx
   split at hx
   . cases hx
   . cases hx;omega
def wE(B:Int)(qs:List #[23])(bs:List #[39])(T':Nat)(m:List D)(r:Env3):Env3:=#[5,B]::some (.sh false (.list (qs.map dI)))::some (.sh false (.list (bs.map dP)))::#[5,T']::some (.ow true m)::r
def wF(B:Int)(qs:List #[23])(bs:List #[39])(T':Nat)(m:List D)(k:Nat)(p:Rat2×Rat2)(j:Int)(r:Env3):Env3:=wE B qs bs T' m (#[5,(k:Int)]::some (.sh false (dQ p.1))::some (.sh false (dQ p.2))::#[5,j]::r)
theorem znG{g:TG3}{tb:TS3}{A:Ends3}{f:Bool}{lo:Int}{n:Nat}(P:Nat->Env3->Prop)(s:∀ k ρ,k<n->P k ρ->∀ W:Env3->Prop,(∀ ρ',P (k+1) ρ'->W ρ')->g f (.int (lo - k)) ρ fun ρ'=>tb { A with nx:=W,ct:=W,bk:=A.nx } ρ')(e:∀ ρ,P n ρ->A.nx ρ){ρ : Env3}(h:P 0 ρ):forL g tb A f (j8 lo (-1) n) ρ:=by
 have key:∀ m k ρ,k+m=n->P k ρ->forL g tb A f (j8 (lo - k) (-1) m) ρ:=by
  intro m
  induction m with
  | zero => intro k ρ hk p; have : k = n := by omega
            subst this;exact e ρ p
  | succ m ih=>
   intro k ρ hk p;rw [zg1];refine s k ρ #[0] p _ fun ρ' p'=>?_
   have:=ih (k+1) ρ' #[0] p'
   rwa [show lo - ((k+1:Nat):Int)=lo - k + -1 by omega] at this
 have:=key n 0 ρ #[0] h
 rwa [show lo - ((0:Nat):Int)=lo by omega] at this
theorem zgK{n:Nat}(hn:1<=n){p:Nat->Bool}:zk n p<n↔∃ t,1<=t/\t<n/\p t=true:=by
 obtain⟨a1,a2,a3,a4⟩:=z9 hn p;refine⟨fun h=>⟨_,a1,h,a4 h⟩,fun⟨t,t1,t2,t3⟩=>?_⟩
 rcases WbA (zk n p) n with z|z
 . exact z
 . have:=a3 t t1 #[0];rw [t3] at this;cases this
theorem zkE{n:Nat}(hn:1<=n){e l:Nat->Bool}:zS n (winP n e l)↔(∃ t,1<=t/\t<n/\e t=true)\/∃ t,1<=t/\t<n/\l t=true:=by
 unfold zS winP;rw [<-zgK hn,<-zgK hn];have:=(z9 hn l).2.1
 constructor
 . rintro(h|h)
   . left
     have h:((zk n e:Nat):Int)<n:=h
     omega
   . right
     rcases WbA (zk n l) n with z|z
     . exact z
     . exact absurd (if_pos #[0]) h
 . rintro(h|h)
   . left;show((zk n e:Nat):Int)<n;omega
   . right;show(if zk n l=n then none else some ((zk n l:Nat):Int))≠none;rw [if_neg #[0]];nofun
theorem zjC{c:Int}{path:List Int}{p:Rat2×Rat2}(hc:0<c)(h1:1<=path.length)(hp:okQ p.1/\okQ p.2){i j:Int}(hij:i<=j)(h:zS path.length (winL c path p j)):zS path.length (winL c path p i):=by
 unfold winL at h ⊢;rw [zkE h1] at h ⊢;have hm:i*c<=j*c:=Ybe hij #[0]
 rcases h with ⟨t,t1,t2,t3⟩|⟨t,t1,t2,t3⟩
 . refine .inl ⟨t,t1,t2,?_⟩
   unfold z7 at t3 ⊢;have t3:=of_decide_eq_true t3;have:=Ybe (show i*c - path.getD t 0<=j*c - path.getD t 0 by omega) (show 0<=p.2.2 by have:=hp.2.1;omega)
   exact decide_eq_true #[0]
 . refine .inr ⟨t,t1,t2,?_⟩
   unfold zX at t3 ⊢;have t3:=of_decide_eq_true t3;have:=Ybe (show path.getD t 0 - j*c+c<=path.getD t 0 - i*c+c by omega) (show 0<=p.1.2 by have:=hp.1.1;omega)
   exact decide_eq_true #[0]
theorem IsW.each{n:Nat}{k:Int}{W:Int->Int×Option Int}:∀ {ws:List Win} {j:Int},IsW n k W j ws->(∀ i,i<ws.length->zS n (W (j+(i:Nat)))/\ws.getD i z4=(k,j+(i:Nat),(W (j+(i:Nat))).1,(W (j+(i:Nat))).2))/\¬zS n (W (j+(ws.length:Nat)))
 | [],j,h=>⟨fun i hi=>absurd hi (Wbe _),by rw [List.length_nil,show j+((0:Nat):Int)=j by omega];exact h⟩
 | w :: r, j, h => by
  obtain⟨a,b⟩:=IsW.each h.2.2;refine⟨fun i hi=>?_,by rw [List.length_cons,show j+((r.length+1:Nat):Int)=j+1+(r.length:Nat) by omega];exact b⟩
  cases i with
  | zero=>
   rw [show j+((0:Nat):Int)=j by omega]
   exact⟨h.1,h.2.1⟩
  | succ i=>
   rw [show j+((i+1:Nat):Int)=j+1+(i:Nat) by omega,List.getD_cons_succ]
   exact a i (by rw [List.length_cons] at hi;omega)
theorem IsW.step{c:Int}{path:List Int}{p:Rat2×Rat2}(hc:0<c)(h1:1<=path.length)(hp:okQ p.1/\okQ p.2){k:Int}{ws:List Win}(h:IsW path.length k (winL c path p) 1 ws)(i:Nat):(zS path.length (winL c path p (1+(i:Int)))->ws.take (i+1)=ws.take i++[(k,1+(i:Int),(winL c path p (1+(i:Int))).1,(winL c path p (1+(i:Int))).2)])/\(¬zS path.length (winL c path p (1+(i:Int)))->ws.take (i+1)=ws.take i):=by
 obtain⟨a,b⟩:=h.each
 constructor
 . intro z
   have hi:i<ws.length:=by
    rcases WbA i ws.length with y|y
    . exact y
    . exact absurd (zjC hc h1 hp #[0] z) b
   obtain⟨a1,a2⟩:=a i hi;rw [WaW,YaQ hi,<-a2,YaP,YaQ hi]
   rfl
 . intro z
   have hi:ws.length<=i:=by
    rcases WbA i ws.length with y|y
    . exact absurd (a i y).1 z
    . exact y
   rw [Wat #[0],Wat #[0]]
theorem zmX{c:Int}{path:List Int}{r:Rat2}(hr:0<r.2){j:Int}{s t:Nat}(h:path.getD s 0<=path.getD t 0)(hl:zX c path r j s=true):zX c path r j t=true:=by
 unfold zX at hl ⊢;have hl:=of_decide_eq_true hl;have:=Ybe (show path.getD s 0 - j*c+c<=path.getD t 0 - j*c+c by omega) (show 0<=r.2 by omega)
 exact decide_eq_true #[0]
theorem zkk{c:Int}(hc:0<c){path:List Int}(h0:path.getD 0 0=0){r:Rat2}(hr:0<r.2)(hi:inQ r){j:Int}(hj:1<=j):zX c path r j 0=false:=by
 unfold zX;rw [h0,decide_eq_false_iff_not];have h1:(0 - j*c+c)*r.2<=0:=by
  have:(0 - j*c+c)<=0:=by
   have h2:1*c<=j*c:=Ybe #[0] #[0]
   omega
  exact Wab this #[0]
 have h2:0<=r.1*c:=YaK hi.1 #[0]
 omega
theorem zlP{n:Nat}(hn:1<=n){p:Nat->Bool}(h0:p 0=false)(hm:∀ s t,s<=t->t<n->p s=true->p t=true){k:Nat}(hk:k<n):min (k+1) (zk n p)=if p k=true then min k (zk n p) else k+1:=by
 obtain⟨a1,a2,a3,a4⟩:=z9 hn p
 by_cases h:p k=true
 . rw [if_pos h]
   have:zk n p<=k:=by
    rcases WbA k (zk n p) with z|z
    . rcases Nat.eq_zero_or_pos k with y|y
      . rw [y,h0] at h;cases h
      . rw [a3 k y z] at h;cases h
    . exact z
   omega
 . rw [if_neg h]
   rcases WbA k (zk n p) with z|z
   . omega
   . exact absurd (hm _ k z hk (a4 #[0])) h
theorem zj6{l:#[31]}(hok:okS l){bs:List #[39]}(hB:okB (many l) bs)(ho:∀ p∈bs,okQ p.1/\okQ p.2){W:List (List Win)}(h:IsWs l bs W){k:Nat}(hk:k<many l):IsW (zd (quoB (zl l) l) k).length k (winL (zl l) (zd (quoB (zl l) l) k) (bs.getD k #[68])) 1 (W.getD k []):=by
 have hkb:k<bs.length:=by rw [hB.1];exact hk
 have hql:=j7 hok;have hqb:=ZF hok (zl l);have htn:=jb fun s hs=>(hok.2.1 s hs).1
 have er:(zx (bot l) bs).getD k (0,0)=(zr (bot l) (bs.getD k #[68]).1,zr (bot l) (bs.getD k #[68]).2):=by
  rw [YaP,YaP];unfold zx;rw [Ya0,YaQ hkb];rfl
 have hm:bs.getD k #[68]∈bs:=jQ hkb;have hl:(zd (quoB (zl l) l) k).length=(quo l).length:=by unfold zd;rw [YaR];omega
 have:=h.2 k hk;rw [er] at this;rw [hl];have e:winB (bot l) #[29] (zr (bot l) (bs.getD k #[68]).1,zr (bot l) (bs.getD k #[68]).2)=winL (zl l) (zd (quoB (zl l) l) k) (bs.getD k #[68]):=funext fun j=>zjG (Jp hok) (zaz hok) (zgi hok) #[0] #[0] (ho _ hm) k j
 rw [e] at this;exact this
theorem zke{n T:Nat}{V:List Win}{rs:List Rule}(ok:OkVs (T:Int) V)(hc:∀ v∈V,InR v.1 n){f:Nat->Nat}(h1:∀ k,k<T->f k<V.length/\mayP rs (V.getD (f k) z4) ((k:Int)+1))(h2:∀ i j,i<T->j<T->f i=f j->i=j)(h3:∀ i,i<V.length->(V.getD i z4).2.2.2≠none->∃ k,k<T/\f k=i):∃ row:List Int,zbk n T row/\zaX V row/\(∀ k,k<T->¬ja rs ((k:Int)+1) (row.getD k 0))/\((List.range T).map fun k=>PyData.int (V.getD (f k) z4).1)=row.map .int:=by
 have ndV:V.Nodup:=by
  have:=Waf.mp ok.nd;rw [WaR] at this;exact Waf.mpr (this.imp fun h e=>h (by rw [e]))
 have hg:∀ k,k<T->(((List.range T).map fun k=>(V.getD (f k) z4).1).getD k 0)=(V.getD (f k) z4).1:=fun k hk=>by
  rw [YaP,Ya0,Yax hk];rfl
 have hlen:((List.range T).map fun k=>(V.getD (f k) z4).1).length=T:=by simp
 have g:Given V ((List.range T).map fun k=>(V.getD (f k) z4).1) (fun k=>V.getD (f k) z4):=by
  refine⟨fun k hk=>?_,fun i j hi hj e=>?_,fun v hv hdv=>?_⟩
  . rw [hlen] at hk
    obtain⟨a,b1,b2,_⟩:=h1 k hk;exact⟨jQ a,(hg k hk).symm,b1,b2⟩
  . rw [hlen] at hi hj
    exact h2 i j hi hj (zmU ndV (h1 i hi).1 (h1 j hj).1 e)
  . obtain⟨i,hi,e⟩:=zgx hv
    obtain⟨k,hk,e2⟩:=h3 i hi (by rw [e];exact hdv)
    exact⟨k,by rw [hlen];exact hk,by rw [e2,e]⟩
 refine⟨_,⟨hlen,fun c hc'=>?_⟩,zlm ok g,fun k hk=>?_,by rw [YaD];rfl⟩
 . obtain⟨k,hk,rfl⟩:=Ya7.mp hc'
   exact hc _ (jQ (h1 k (Yba.mp hk)).1)
 . rw [hg k hk]
   exact(h1 k hk).2.2.2
theorem zc2{T n:Int}{a b:List Rule}(h:okRs T n a)(h':okRs T n b):okRs T n (a++b):=fun r hr=>by
 rcases Ya3.mp hr with z|z
 . exact h r z
 . exact h' r z
theorem zbO{a b:List Rule}(h:txtR a)(h':txtR b):txtR (a++b):=fun r hr=>by
 rcases Ya3.mp hr with z|z
 . exact h r z
 . exact h' r z
theorem zgV(bs:List #[39]):∀ x∈bs.map dP,nol2 x:=fun x hx=>by
 obtain⟨p,_,rfl⟩:=Ya7.mp hx;refine .inr ⟨_,rfl,fun y hy=>.inr ?_⟩
 rcases Wbm.mp hy with rfl|hy
 . exact⟨_,rfl,fun z hz=>by simp only [Wbm,Wa5,or_false] at hz;rcases hz with rfl|rfl<;>rfl⟩
 . rw [Ya6.mp hy]
   exact⟨_,rfl,fun z hz=>by simp only [Wbm,Wa5,or_false] at hz;rcases hz with rfl|rfl<;>rfl⟩
theorem zdc{n:Nat}{k:Int}{F:Int->Int×Option Int}{M:Int}(hM:∀ j,zS n (F j)->j<=M):∀ (m:Nat) (j:Int),M+1 - j<=m->∃ ws,IsW n k F j ws
 | 0,j,h=>⟨[],fun z=>by have:=hM j z;omega⟩
 | m + 1, j, h => by
  by_cases z:zS n (F j)
  . obtain⟨ws,hw⟩:=zdc hM m (j+1) #[0]
    exact⟨(k,j,(F j).1,(F j).2)::ws,z,rfl,hw⟩
  . exact⟨[],z⟩
theorem zdw{α : Type}{P:Nat->List α->Prop}:∀ {n:Nat},(∀ k,k<n->∃ ws,P k ws)->∃ W:List (List α),W.length=n/\∀ k,k<n->P k (W.getD k [])
 | 0,_=>⟨[],rfl,fun k hk=>absurd hk #[0]⟩
 | n + 1, h => by
  obtain⟨W,h1,h2⟩:=zdw (n:=n) fun k hk=>h k #[0]
  obtain⟨ws,hw⟩:=h n #[0]
  refine⟨W++[ws],by rw [YaS,h1];rfl,fun k hk=>?_⟩
  by_cases z:k<n
  . rw [YaP,Yab #[0],<-YaP];exact h2 k z
  . have e:k=n:=#[0]
    subst e;rw [YaP,Yae #[0],h1,WbD]
    exact hw
theorem znp{l:#[31]}(hok:okS l){bs:List #[39]}(hB:okB (many l) bs)(ho:∀ p∈bs,okQ p.1/\okQ p.2):∃ W,IsWs l bs W:=by
 have hql:=j7 hok;have htn:=jb fun s hs=>(hok.2.1 s hs).1
 have hbp:=Jp hok;have hm:=j6 hok;refine zdw fun k hk'=>?_
 have hkb:k<bs.length:=by rw [hB.1];exact hk'
 have er:(zx (bot l) bs).getD k (0,0)=(zr (bot l) bs[k].1,zr (bot l) bs[k].2):=by
  rw [YaP];unfold zx;rw [Ya0,YaQ hkb];rfl
 have z:=hB.2 bs[k] (Ya4 hkb);have y:=ho bs[k] (Ya4 hkb);have r1:0<=zr (bot l) bs[k].1:=Wbh (YaK z.1.1 #[0]) (by have:=y.1.1;omega)
 have r2:0<=zr (bot l) bs[k].2:=Wbh (YaK z.2.1 #[0]) (by have:=y.2.1;omega)
 have r3:zr (bot l) bs[k].2<=10*bot l:=by
  refine WaC y.2.1 ?_
  have h1:bs[k].2.1*bot l<=10*bs[k].2.2*bot l:=Ybe z.2.2 #[0]
  have e1:10*bs[k].2.2*bot l=10*bot l*bs[k].2.2:=by ac_rfl
  omega
 have htb:0<=tot l*bot l:=YaK htn #[0]
 have eM:(tot l+10)*bot l=tot l*bot l+10*bot l:=WbG ..;have hp:∀ t,(zd (quo l) k).getD t 0+zr (bot l) bs[k].2<=(tot l+10)*bot l:=fun t=>by
  have:(zd (quo l) k).getD t 0<=tot l*bot l:=by
   rw [YaP];cases ht:#[29][t]? with
   | none=>show(0:Int)<=_;omega
   | some x=>
    show x<=_
    unfold zd at ht;rw [Ya0] at ht;obtain⟨r,hr,rfl⟩:=YaJ.mp ht;rw [YaP];cases hx:r[k]? with
    | none=>show(0:Int)<=_;omega
    | some x=>
     have h1:=ZJ hok hbp r (Yah hr) x (Yah hx);show x<=_
     omega
  omega
 have hpl:(zd (quo l) k).length=(quo l).length:=by unfold zd;rw [YaR]
 rw [er];exact zdc (M:=tot l+10+1) (fun i hi=>zbn (room:=(zr (bot l) bs[k].1,zr (bot l) bs[k].2)) hbp (by rw [hpl];omega) hp r2 r1 i (by rw [hpl];exact hi)) (tot l+12).toNat 1 #[0]
section
variable{P:Program}{w:World}{c:Law.Cl}{K:Ybf}{mg:#[15]}{base:Heap}
def zao:Sp3:=fun ds Q E=>∃ ns k,ds=[dI ns,.int k]/\0<=k/\∀ v:Int,Q true (.int v)
def zaa:Sp3:=fun ds Q E=>∃ ns k,ds=[dI ns,.int k]/\0<=k/\k<=64/\∀ v:Int,0<=v->Q true (.int v)
def Z3:Sp3:=fun ds Q E=>∃ (cc:Int) (n:Nat),ds=[.int cc,.int n]/\1<=n/\n<=8/\∀ ws:List Int,okW ws->ws.length=n->Q true (dI ws)
def zak:Sp3:=fun ds Q E=>∃ (ns:List Int) (n:Nat) (mm:Int),ds=[dI ns,.int n,.int mm]/\1<=n/\n<=8/\1<=mm/\mm<=60/\∀ l:List Spell,okS l->many l=n->tot l<=mm->Q true (dSs l)
def zag:Sp3:=fun ds Q E=>∃ l,ds=[dSs l]/\okS l/\Q true (.tuple [.int (zl l),.list ((quoB (zl l) l).map dI)])
def zar:Sp3:=fun ds Q E=>∃ a b,ds=[.int a,.int b]/\0<b/\Bits 9000 b/\Q true (dR a b)
def Z4:Sp3:=fun ds Q E=>∃ (cc:Int) (n:Nat),ds=[.int cc,.int n]/\n<=8/\∀ l:List #[39],okB n l->(∀ p∈l,okQ p.1/\okQ p.2)->Q true (dPs l)
def zaq:Sp3:=fun ds Q E=>∃ (xs:List Int) (T n:Int),ds=[dI xs,.int T,.int n]/\xs.length<=63/\1<=T/\T<=60/\1<=n/\n<=8/\∀ rs:List Rule,okRs T n rs->txtR rs->rs.length<=63->Q true (dRs rs)
def ZA:Sp3:=fun ds Q E=>∃ (ns:List Int) (m:Int),ds=[dI ns,.int m]/\ns.length<=63/\0<=m/\m<=63/\∀ xs:List Int,xs.length<=63->Q true (dI xs)
def zaL(c:Law.Cl):Sp3:=fun ds Q E=>∃ ws,ds=[dI ws]/\(okW ws->Q true .none)/\(¬okW ws->E c.NoSpell)
def zaD:Sp3:=fun ds Q E=>∃ l,ds=[dSs l]/\l.length<=1000/\Q true (.int (tot l))
def Zo(c:Law.Cl):Sp3:=fun ds Q E=>∃ l,ds=[dSs l]/\(okS l->Q true .none)/\(¬okS l->E c.NoSpell)
def J0:Sp3:=fun ds Q _=>∃ a b,ds=[.int a,.int b]/\Q true (.int (Int.gcd a b))
def J6:Sp3:=fun ds Q E=>∃ ws,ds=[dI ws]/\Q true (.int (gcdL ws))
def ZV:Sp3:=fun ds Q E=>∃ l,ds=[dSs l]/\okS l/\Q true (.int (bot l))
def ZS:Sp3:=fun ds Q E=>∃ b ws,ds=[.int b,dI ws]/\okW ws/\Bits 2000 b/\Q true (dI (shares b ws))
def Z0(c:Law.Cl):Sp3:=fun ds Q E=>∃ l,ds=[dSs l]/\(okS l->Q true (.tuple [.int (bot l),.list ((quo l).map dI)]))/\(¬okS l->E c.NoSpell)
def zax:Sp3:=fun ds Q E=>∃ (path:List Int) (w:Int),ds=[dI path,.int w]/\path.length<=61/\1<=path.length/\Q true (.int (zk path.length fun t=>decide (w<=path.getD t 0)))
def Zp:Sp3:=fun ds Q E=>∃ (b:Int) (path:List Int) (j:Int) (room:Int×Int),ds=[.int b,dI path,.int j,jL room]/\path.length<=61/\1<=path.length/\Bits 2000 b/\Bits 64 j/\Q true (.tuple [.int (winB b path room j).1,dO (winB b path room j).2])
def Zj:Sp3:=fun ds Q E=>∃ (b:Int) (q:List #[23]) (k:Nat) (room:Int×Int) (n:Nat),ds=[.tuple [.int b,.list (q.map dI)],.int k,jL room]/\0<b/\Bits 2000 b/\k<n/\q.length<=61/\1<=q.length/\(∀ r∈q,r.length=n)/\(∀ r∈q,r.getD k 0+room.2<=80*b)/\0<=room.1/\0<=room.2/\room.2<=80*b/\∀ ws,IsW q.length k (winB b (zd q k) room) 1 ws->ws.length<=200->Q true (.list (ws.map dW))
def ZE:Sp3:=fun ds Q E=>∃ (b:Int) (q:List #[23]) (rooms:List (Int×Int)) (n:Nat),ds=[.tuple [.int b,.list (q.map dI)],.list (rooms.map jL)]/\0<b/\Bits 2000 b/\rooms.length=n/\n<=8/\q.length<=61/\1<=q.length/\(∀ r∈q,r.length=n)/\(∀ r∈q,∀ x∈r,x<=60*b)/\(∀ p∈rooms,0<=p.1/\0<=p.2/\p.2<=20*b)/\∀ W:List (List Win),W.length=n->(∀ k,k<n->IsW q.length k (winB b (zd q k) (rooms.getD k (0,0))) 1 (W.getD k []))->W.flatten.length<=2000->Q true (.list (W.flatten.map dW))
def ZG:Sp3:=fun ds Q E=>∃ (V:List Win) (ch:List #[23]),ds=[.list (V.map dW),.list (ch.map dI)]/\V.length<=2000/\ch.length<=60/\(∀ row∈ch,row.length<=2000/\∀ x∈row,InR x V.length)/\∀ tv:List #[23],tv.length=V.length->(∀ row∈tv,∀ x∈row,InR x ch.length)->(∀ i,i<V.length->∀ j,j<ch.length->((j:Int)∈tv.getD i []↔(i:Int)∈ch.getD j []))->Q true (.list (tv.map dI))
def Zq:SpC:=fun cs Q=>∃ (x:Int) (a1 a2 a3:Addr) (ca t h:Tb) (r:Int->Nat) (start:Int) (A B m:Nat) (Ed:Int->Int->Prop),cs=[.sh true (.int x),.dm a1 ca,.dm a2 t,.dm a3 h]/\Way Ed ca t r start A B/\OnWay Ed ca t h t h r x A B m/\A<=2000/\B<=2000/\∀ t' h',Moved Ed t h t' h' start A B->Q (.sh true .none) [ca,t',h']
def Zi:SpC:=fun cs Q=>∃ (start:Int) (ch:List #[23]) (a2 a3:Addr) (t h:Tb) (A B:Nat),cs=[.sh true (.int start),.sh false (.list (ch.map dI)),.dm a2 t,.dm a3 h]/\ch.length=A/\A<=2000/\B<=2000/\(A<=62\/B<=62)/\InR start A/\(∀ row∈ch,∀ x∈row,InR x B)/\Mat t h/\TbOk t A B/\TbOk h B A/\getM t start=none/\(∀ s c,getM t s=some c->c∈ch.getD s.toNat [])/\(∀ t' h',Moved (fun s c=>c∈ch.getD s.toNat []) t h t' h' start A B->Q (.sh true (.list [])) [t',h'])/\∀ rs:List Int,rs.Nodup->rs.Pairwise (·<=·)->rs.length<64->(∀ x∈rs,InR x A/\(x=start\/(getM t x).isSome=true))->start∈rs->(∃ C:List Int,C.length<rs.length/\∀ x∈rs,∀ c∈ch.getD x.toNat [],c∈C)->Q (.sh true (dI rs)) [t,h]
def Z8:Sp3:=fun ds Q E=>∃ (V:List Win) (ch:List #[23]),ds=[.list (V.map dW),.list (ch.map dI)]/\V.length<=2000/\ch.length<=60/\(∀ row∈ch,row.length<=2000/\∀ x∈row,InR x V.length)/\∀ d,Zf V ch.length (fun k i=>(i:Int)∈ch.getD k []) d->Q true d
def ZT:Sp3:=fun ds Q E=>∃ a b:Rat2,ds=[dQ a,dQ b]/\okQ a/\okQ b/\Q true (.bool (decide (a.1*b.2<b.1*a.2)))
def zan(c:Law.Cl):Sp3:=fun ds Q E=>∃ (l:List #[39]) (n:Nat),ds=[dPs l,.int n]/\(∀ p∈l,okQ p.1/\okQ p.2)/\(okB n l->Q true .none)/\(¬okB n l->E c.NoBounds)
def zab:Sp3:=fun ds Q E=>∃ (b:Int) (r:Rat2),ds=[.int b,dQ r]/\Bits 2000 b/\okQ r/\Q true (.int (zr b r))
def zac(c:Law.Cl):Sp3:=fun ds Q E=>∃ (b:Int) (q:List #[23]) (l:List #[39]) (n:Nat),ds=[.tuple [.int b,.list (q.map dI)],dPs l]/\Bits 2000 b/\1<=q.length/\(∀ r∈q,r.length=n)/\n<=8/\l.length<=1000/\(∀ p∈l,okQ p.1/\okQ p.2)/\(okB n l->Q true (.list ((zx b l).map jL)))/\(¬okB n l->E c.NoBounds)
def zaM(c:Law.Cl):Sp3:=fun ds Q E=>∃ t T:Int,ds=[.int t,.int T]/\(1<=t/\t<=T->Q true .none)/\(¬(1<=t/\t<=T)->E c.NoRule)
def zah(c:Law.Cl):Sp3:=fun ds Q E=>∃ (rs:List Rule) (T n:Int),ds=[dRs rs,.int T,.int n]/\txtR rs/\(okRs T n rs->Q true .none)/\(¬okRs T n rs->E c.NoRule)
def zad:SpC:=fun cs Q=>∃ (rs:List Rule) (n:Nat),cs=[.sh false (dRs rs),.sh true (.int n)]/\n<=8/\rs.length<=1000/\∀ ds,(ds.all fun p=>zq p.2)=true->jY rs n ds->Q (.dt ds) []
def Zk:SpC:=fun cs Q=>∃ (v:Win) (t:Int) (ds:List #[33]),cs=[.sh false (dW v),.sh true (.int t),.fd ds]/\(ds.all fun p=>zq p.2)=true/\Q (.sh true (.bool (mayD ds v t))) []
def zaj(c:Law.Cl):Sp3:=fun ds Q E=>∃ (b:Int) (q:List #[23]) (V:List Win) (rs:List Rule) (n T:Nat),ds=[.tuple [.int b,.list (q.map dI)],.list (V.map dW),dRs rs]/\q.length=T+1/\T<=60/\(∀ r∈q,r.length=n)/\n<=8/\V.length<=2000/\(∀ v∈V,InR v.1 n)/\rs.length<=1000/\txtR rs/\(okRs T n rs->∀ ch:List #[23],ch.length=T->(∀ row∈ch,row.length<=2000/\∀ x∈row,InR x V.length)->ChOk rs V ch->Q true (.list (ch.map dI)))/\(¬okRs T n rs->E c.NoRule)
def zaK(c:Law.Cl):Sp3:=fun ds Q E=>∃ (l:#[31]) (bs:List #[39]) (rs:List Rule),ds=[dSs l,dPs bs,dRs rs]/\bs.length<=1000/\(∀ p∈bs,okQ p.1/\okQ p.2)/\rs.length<=1000/\txtR rs/\(okS l->okB (many l) bs->okRs (tot l) (many l) rs->∀ W:List (List Win),IsWs l bs W->∀ d,Zf W.flatten (tot l).toNat (fun k i=>mayP rs (W.flatten.getD i z4) ((k:Int)+1)) d->Q true d)/\(¬okS l->E c.NoSpell)/\(okS l->¬okB (many l) bs->E c.NoBounds)/\(okS l->okB (many l) bs->¬okRs (tot l) (many l) rs->E c.NoRule)
def Zs:Sp3:=fun ds Q E=>∃ (l:#[31]) (bs:List #[39]) (W:List (List Win)),ds=[.int (zl l),.list ((quoB (zl l) l).map dI),dPs bs]/\okS l/\okB (many l) bs/\(∀ p∈bs,okQ p.1/\okQ p.2)/\IsWs l bs W/\Q true (.list (W.flatten.map dW))
def Z5:Sp3:=fun ds Q E=>∃ (rs:List Rule) (t c:Int),ds=[dRs rs,.int t,.int c]/\txtR rs/\(∀ r∈rs,r.1 = "fixed"\/r.1 = "barred")/\∀ b:Bool,(b=true↔¬ja rs t c)->Q true (.bool b)
def zaE:Sp3:=fun ds Q E=>∃ (v:Win) (T:Int) (rs:List Rule),ds=[dW v,.int T,dRs rs]/\txtR rs/\(∀ r∈rs,r.1 = "fixed"\/r.1 = "barred")/\1<=v.2.2.1/\(v.2.2.1<=100)/\0<=T/\T<=60/\(∀ x,v.2.2.2=some x->0<=x/\x<=T)/\∀ cs:List Int,(∀ t,t∈cs↔(v.2.2.1<=t/\t<=v.2.2.2.getD T/\¬ja rs t v.1))->cs.length<=60->Q true (dI cs)
def zav:Sp3:=fun ds Q E=>∃ (V:List Win) (T:Nat) (rs:List Rule) (S:List Int),ds=[.list (S.map fun x=>.tuple [.int (V.getD x.toNat z4).1,.int (V.getD x.toNat z4).2.1]),.list (V.map dW),.int T,dRs rs]/\rs.length<=1000/\txtR rs/\(∀ r∈rs,r.1 = "fixed"\/r.1 = "barred")/\OkVs T V/\V.length<=2000/\T<=60/\(∀ v∈V,((0<=v.1/\v.1<8)/\1<=v.2.1/\v.2.1<80)/\v.2.2.1<=100/\∀ x,v.2.2.2=some x->0<=x)/\S.Nodup/\S.Pairwise (·<=·)/\S≠[]/\S.length<64/\(V.map fun v=>(v.1,v.2.1)).Pairwise (fun a b=>lex2 a b=true)/\(∀ x∈S,InR x V.length/\(V.getD x.toNat z4).2.2.2≠none)/\(∃ C:List Int,C.length<S.length/\∀ x∈S,∀ k,k<T->mayP rs (V.getD x.toNat z4) ((k:Int)+1)->(k:Int)∈C)/\Q true (.bool true)
def zaH:Sp3:=fun ds Q E=>∃ (V:List Win) (T:Nat) (rs:List Rule) (S:List Int),ds=[.list (S.map fun x=>.int (x+1)),.list (V.map dW),.int T,dRs rs]/\rs.length<=1000/\txtR rs/\(∀ r∈rs,r.1 = "fixed"\/r.1 = "barred")/\OkVs T V/\V.length<=2000/\T<=60/\(∀ v∈V,((0<=v.1/\v.1<8)/\1<=v.2.1/\v.2.1<80)/\v.2.2.1<=100/\∀ x,v.2.2.2=some x->0<=x)/\S.Nodup/\S.Pairwise (·<=·)/\S≠[]/\S.length<64/\(∀ x∈S,InR x T)/\(∃ C:List Int,C.length<S.length/\∀ x∈S,∀ i,i<V.length->mayP rs (V.getD i z4) (((x.toNat:Nat):Int)+1)->(i:Int)∈C)/\Q true (.bool true)
def Zv:Sp3:=fun ds Q E=>∃ (row:List Int) (b:Int) (rows:List #[23]) (bs:List #[39]) (n:Nat),ds=[dI row,.int b,.list (rows.map dI),dPs bs]/\1<=n/\n<=8/\rows.length=row.length+1/\rows.length<=61/\(∀ r∈rows,r.length=n/\∀ x∈r,Bits 1000 x)/\(∀ c∈row,0<=c/\c<n)/\Bits 900 b/\bs.length=n/\(∀ p∈bs,okQ p.1/\okQ p.2)/\∀ r:Bool,(r=true↔kpP b n rows row bs)->Q true (.bool r)
def zai:Sp3:=fun ds Q E=>∃ (d:D) (l:#[31]) (bs:List #[39]) (rs:List Rule),ds=[d,.int (zl l),.list ((quoB (zl l) l).map dI),dPs bs,dRs rs]/\okS l/\okB (many l) bs/\(∀ p∈bs,okQ p.1/\okQ p.2)/\rs.length<=1000/\txtR rs/\okRs (tot l) (many l) rs/\(∃ W:List (List Win),IsWs l bs W/\Zf W.flatten (tot l).toNat (fun k i=>mayP rs (W.flatten.getD i z4) ((k:Int)+1)) d)/\Q true (.bool true)
def Jw:Sp3:=fun ds Q E=>∃ ns,ds=[dI ns]/\ns.length<=63/\Q true (.bool true)
section
variable(c:Law.Cl)(P:Program)(w:World)(K:Ybf)(mg:#[15])(base:Heap)
abbrev dd_law_cell_at:=Df3 P w K mg base 1 "_law_cell_at" ["_law_script", "_law_k"] zao
abbrev dd_law_drawn_at:=Df3 P w K mg base 2 "_law_drawn_at" ["_law_script", "_law_k"] zaa
abbrev dd_law_weights:=Df3 P w K mg base 1 "_law_weights" ["_law_cell", "_law_clans"] Z3
abbrev dd_law_spells:=Df3 P w K mg base 3 "_law_spells" ["_law_script", "_law_clans", "_law_most"] zak
abbrev dd_law_quotas:=Df3 P w K mg base 1 "_law_quotas" ["_law_spells_here"] zag
abbrev dd_law_ratio:=Df3 P w K mg base 1 "_law_ratio" ["_law_top", "_law_bottom"] zar
abbrev dd_law_bounds:=Df3 P w K mg base 2 "_law_bounds" ["_law_cell", "_law_clans"] Z4
abbrev dd_law_rules:=Df3 P w K mg base 1 "_law_rules" ["_law_cells_here", "_law_turns", "_law_clans"] zaq
abbrev dd_law_cells:=Df3 P w K mg base 3 "_law_cells" ["_law_script", "_law_most"] ZA
abbrev dd_check_weights:=Df3 P w K mg base 1 "check_weights" ["weights"] (zaL c)
abbrev dd_all_turns:=Df3 P w K mg base 1 "all_turns" ["spells"] zaD
abbrev dd_check_spells:=Df3 P w K mg base 2 "check_spells" ["spells"] (Zo c)
abbrev dd_common_divisor:=Df3 P w K mg base 1 "common_divisor" ["one", "other"] J0
abbrev dd_divisor_of_all:=Df3 P w K mg base 2 "divisor_of_all" ["weights"] J6
abbrev dd_least_bottom:=Df3 P w K mg base 3 "least_bottom" ["spells"] ZV
abbrev dd_shares_over:=Df3 P w K mg base 1 "shares_over" ["bottom", "weights"] ZS
abbrev dd_quotas:=Df3 P w K mg base 4 "quotas" ["spells"] (Z0 c)
abbrev dd_first_turn:=Df3 P w K mg base 1 "first_turn" ["path", "wanted"] zax
abbrev dd_window_of:=Df3 P w K mg base 2 "window_of" ["bottom", "path", "j", "room"] Zp
abbrev dd_windows_of_clan:=Df3 P w K mg base 3 "windows_of_clan" ["told", "clan", "room"] Zj
abbrev dd_windows_within:=Df3 P w K mg base 4 "windows_within" ["told", "rooms"] ZE
abbrev dd_choices_of_visits:=Df3 P w K mg base 1 "choices_of_visits" ["visits", "choices"] ZG
abbrev dd_move_along:=DfC P w K mg base 1 "move_along" ["choice", "came", "taken", "holders"] Zq
abbrev dd_settle:=DfC P w K mg base 2 "settle" ["start", "choices", "taken", "holders"] Zi
abbrev dd_place_visits:=Df3 P w K mg base 3 "place_visits" ["visits", "choices"] Z8
abbrev dd_less:=Df3 P w K mg base 1 "less" ["one", "other"] ZT
abbrev dd_check_bounds:=Df3 P w K mg base 2 "check_bounds" ["bounds", "clans"] (zan c)
abbrev dd_room_at_most:=Df3 P w K mg base 1 "room_at_most" ["bottom", "bound"] zab
abbrev dd_rooms_of:=Df3 P w K mg base 3 "rooms_of" ["told", "bounds"] (zac c)
abbrev dd_check_turn:=Df3 P w K mg base 1 "check_turn" ["turn", "turns"] (zaM c)
abbrev dd_check_rules:=Df3 P w K mg base 2 "check_rules" ["rules", "turns", "clans"] (zah c)
abbrev dd_forbidden:=DfC P w K mg base 1 "forbidden" ["rules", "clans"] zad
abbrev dd_may_come:=DfC P w K mg base 1 "may_come" ["visit", "turn", "barred"] Zk
abbrev dd_choices_of_turns:=Df3 P w K mg base 3 "choices_of_turns" ["told", "visits", "rules"] (zaj c)
abbrev dd_placed:=Df3 P w K mg base 5 "placed" ["spells", "bounds", "rules"] (zaK c)
abbrev dd_law_windows:=Df3 P w K mg base 1 "_law_windows" ["_law_bottom", "_law_told", "_law_bounds_here"] Zs
abbrev dd_law_lets:=Df3 P w K mg base 1 "_law_lets" ["_law_rules_here", "_law_turn", "_law_clan"] Z5
abbrev dd_law_comes:=Df3 P w K mg base 2 "_law_comes" ["_law_window", "_law_turns", "_law_rules_here"] zaE
abbrev dd_law_few_turns:=Df3 P w K mg base 3 "_law_few_turns" ["_law_some", "_law_visits", "_law_turns", "_law_rules_here"] zav
abbrev dd_law_few_visits:=Df3 P w K mg base 3 "_law_few_visits" ["_law_some", "_law_visits", "_law_turns", "_law_rules_here"] zaH
abbrev dd_law_keeps:=Df3 P w K mg base 1 "_law_keeps" ["_law_row", "_law_bottom", "_law_told", "_law_bounds_here"] Zv
abbrev dd_law_right:=Df3 P w K mg base 4 "_law_right" ["_law_found", "_law_bottom", "_law_told", "_law_bounds_here", "_law_rules_here"] zai
end
local macro_rules | `(tactic| walk_at $w:str)=>do
 let ws:=w.getString.splitOn " "
 if ws.head? == some "o" then return (<-`(tactic| first|exact Or.inl rfl|exact Or.inr rfl|exact Or.inr (Or.inl rfl)|exact Or.inr (Or.inr rfl)))
 if ws.head? == some "s" then return (<-`(tactic| refine zf fun $(Lean.mkIdent `N) $(Lean.mkIdent `hN)=>?_))
 if ws.head? == some "n" then return (<-`(tactic| (refine $(Lean.mkIdent `hN) _ ?_;clear $(Lean.mkIdent `hN) $(Lean.mkIdent `N))))
 if ws.head? == some "t" then return (<-`(tactic| (clear $(Lean.mkIdent `hN) $(Lean.mkIdent `N);refine zf fun $(Lean.mkIdent `N) $(Lean.mkIdent `hN)=>?_)))
 if ws.head? == some "u" then return (<-`(tactic| (refine $(Lean.mkIdent `hN) _ ?_;clear $(Lean.mkIdent `hN) $(Lean.mkIdent `N);refine zf fun $(Lean.mkIdent `N) $(Lean.mkIdent `hN)=>?_)))
 if ws.head? == some "q" then return (<-`(tactic| (refine zf fun $(Lean.mkIdent `N) $(Lean.mkIdent `hN)=>?_;walk_at "rd")))
 if ws.head? == some "v" then return (<-`(tactic| (refine $(Lean.mkIdent `hN) _ ?_;clear $(Lean.mkIdent `hN) $(Lean.mkIdent `N);refine zf fun $(Lean.mkIdent `N) $(Lean.mkIdent `hN)=>?_;walk_at "rd")))
 if ws.head? == some "w" then return (<-`(tactic| (clear $(Lean.mkIdent `hN) $(Lean.mkIdent `N);refine zf fun $(Lean.mkIdent `N) $(Lean.mkIdent `hN)=>?_;walk_at "rd")))
 if ws.head? == some "l" then return (<-`(tactic| first|(obtain⟨_,$(Lean.mkIdent `rfl):ident,_⟩:=$(Lean.mkIdent `h);rfl)|(obtain⟨_,_,$(Lean.mkIdent `rfl):ident,_⟩:=$(Lean.mkIdent `h);rfl)|(obtain⟨_,_,_,$(Lean.mkIdent `rfl):ident,_⟩:=$(Lean.mkIdent `h);rfl)|(obtain⟨_,_,_,_,$(Lean.mkIdent `rfl):ident,_⟩:=$(Lean.mkIdent `h);rfl)|(obtain⟨_,_,_,_,_,$(Lean.mkIdent `rfl):ident,_⟩:=$(Lean.mkIdent `h);rfl)|(obtain⟨_,_,_,_,_,_,$(Lean.mkIdent `rfl):ident,_⟩:=$(Lean.mkIdent `h);rfl)))
 unless ws.head? == some "rd" do Lean.Macro.throwUnsupported
 let ds <-("seq3,next3,set3,own3,ret3,ifS3,tt3,o3,u3,v3,atV,asS,asB,asD,optP,asT,asLd,asL,atO,Jt,nilP,asId,asI,k3,nw3,add3,int3,int0,neg3,eq3,ne3,eqOk,eqv3,isN3,notN3,isNone,ix3,ixD,Zy,nil3,Z2,cb3,len3,lenD,abs3,min23,sum3,all3,and3,or3,not3,ZU,ch3,tup3,lst3,ZX,catN,no3,Zt,zau,L2.isD,ZH,asg3,gn3,zaO,JS,gnil3,app3,put3,frzS,frz,frz1,for3,itL,itT,itZ,rg1,rg2,Ji,true3,cst3,Zg,jR,shs,Cl.d,Cl.dat,Cl.f,zbo,zq,Option.map_some,Option.map_none,Option.isSome_some,Option.isSome_none,Option.join_some,Option.join_none,List.all_cons,List.all_nil,Wbo,Wbp,Bool.true_or,Ya1,Wby,List.length_cons,List.length_nil,Nat.reduceAdd,Nat.reduceSub,List.replicate,List.cons_append,List.nil_append,List.getElem?_cons_zero,List.getElem?_cons_succ,List.set_cons_zero,List.set_cons_succ,Wbr,Bool.not_false,zaI,par3,aug3,ext3,itE,k3f,zat,app2,zaJ,zaf,inD3,slT3,frzD,dms,jj,argC,Js,j4,finM,holds,updM,JT,zaF,zaN,zaB,Z6,Zn,ZR,zam,ZP,zaG,ZZ,srtL,ninT3,zas,List.foldl_cons,List.foldl_nil,ssP,ssI,lnS,rgD,frN,lrN2,endO,ifT,intB3,zao,zaa,Z3,zak,zag,zar,Z4,zaq,ZA,zaL,zaD,Zo,J0,J6,ZV,ZS,Z0,zax,Zp,Zj,ZE,ZG,Zq,Zi,Z8,ZT,zan,zab,zac,zaM,zah,zad,Zk,zaj,zaK,Zs,Z5,zaE,zav,zaH,Zv,zai,Jw,dSs,dS,dI,zq,dQ,dP,dPs,jL,dW,dRs,dRl,dK2,wE,wF".splitOn ",").toArray.mapM fun s=>`(Lean.Parser.Tactic.simpLemma| $(Lean.mkIdent s.toName):term)
 let rs <-(("Wbs,Wbq,Wbn,WbE,WbD,Yao,WaN,Cl.sh.injEq,Cl.ow.injEq,Wa8,WaX,Wa9,WaY,WaK,Wbg,reduceCtorEq,and_assoc,and_true,true_and,and_self,exists_eq_left,exists_eq_left',exists_eq',exists_eq_right,exists_eq_right',exists_and_left,exists_const,exists_false,false_and,and_false,or_false,false_or,or_true,true_or,decide_true,decide_false,decide_eq_true_eq,WaH,WaL,if_true,if_false,ite_true,ite_false,WaM,decide_eq_false_iff_not,eq_self_iff_true,not_true_eq_false,not_false_eq_true,sz0,sz1,sz2,sz3,sz4,Cl.tr.injEq,Cl.dt.injEq,Cl.fd.injEq,Cl.dm.injEq,atI0,atI1,atI2,atI3".splitOn ",")++ws.tail).toArray.mapM fun s=>`(Lean.Parser.Tactic.simpLemma| $(Lean.mkIdent s.toName):term)
 let ls:=ds++rs
 `(tactic| ((try dsimp only [$ds:simpLemma,*]);try simp (config:={ maxSteps:=2000000 }) only [$ls:simpLemma,*]))
theorem zcy(T:#[53]):dd_law_cell_at P w K mg base:=by
 obtain⟨f,fd,F,hm⟩:=T.d_law_cell_at;have S:FnScope ["_law_script", "_law_k"] ["_law_script", "_law_k"] (zh zfb):=#[10]
 refine⟨fun ds Q Q' E E' hQ hE h=>?_,⟨f,fd,fn3 F S (fun ds Q E h=>?_) (fun cdv A outer s H E E3 hE hr=>?_),F.binds fun _ _ _ _ _ _ us hl=>by obtain⟨_,_,rfl⟩:=z8 hl;rfl,F.kp,hm⟩⟩
 . obtain⟨a,b,e,z,h⟩:=h;exact⟨a,b,e,z,fun v=>hQ _ _ (h v)⟩
 . walk_at "l"
 refine⟨_,(zc (s_if (zm jw (n3 1) #[34] #[25]) (ze (zp (at3 (n3 0) (n3 1) #[4]))) zu)
  (ze (zp i3))),fun ds Q h=>?_⟩
 obtain⟨ns,k,rfl,hk,q⟩:=h
 walk_at "rd"
 rw [YaR]
 by_cases h:k<ns.length
 . rw [if_pos h]
   obtain⟨x,h1,_⟩:=zcU (xs:=ns) hk h;exact⟨.int x,by rw [Zd,h1];rfl,q _⟩
 . rw [if_neg h]
   exact q _
theorem zcf(T:#[53]):dd_law_drawn_at P w K mg base:=by
 have znX:dd_law_cell_at P w K mg base:=zcy T;obtain⟨f,fd,F,hm⟩:=T.d_law_drawn_at;have S:FnScope ["_law_script", "_law_k", "_law_cell", "_law_place"] ["_law_script", "_law_k"] (zh zeR):=#[10]
 refine⟨fun ds Q Q' E E' hQ hE h=>?_,⟨f,fd,fn3 F S (fun ds Q E h=>?_) (fun cdv A outer s H E E3 hE hr=>?_),F.binds fun _ _ _ _ _ _ us hl=>by obtain⟨_,_,rfl⟩:=z8 hl;rfl,F.kp,hm⟩⟩
 . obtain⟨a,b,e,z,y,h⟩:=h;exact⟨a,b,e,z,y,fun v x=>hQ _ _ (h v x)⟩
 . walk_at "l"
 refine⟨_,(zc (#[9,zi,2] (op3 zJ (df3 hE znX #[7] rfl zo (za (n3 0) #[50])) (op3 Jy i3 i3)))
  (zc (s_if (zm jw (n3 2) (op3 Jy i3 i3) #[25]) (zc (#[9,zi,3] (op3 zF (n3 1) (op3 zN i3 (op3 zJ (df3 hE znX #[7] rfl zo (za (n3 0) (za i3 zb))) i3))))
   (zc (#[9,zi,2] (op3 zJ (op3 zN (op3 zF (n3 2) (op3 zN i3 (op3 zF (n3 3) i3))) i3) (op3 Jy i3 i3)))
   (ze (#[9,zi,2] (op3 zJ (op3 zM (op3 zN (n3 2) (n3 2)) (op3 Jy i3 i3)) (op3 Jy i3 i3)))))) zu)
  (ze (zp (n3 2))))),fun ds Q h=>?_⟩
 obtain⟨ns,k,rfl,h0,h64,q⟩:=h
 walk_at "rd"
 have cp:∀ n:Int,0<=n->n<=100->Jz 10 n:=fun n h h'=>powB (k:=4) (by unfold Bits;decide) h #[0]
 refine⟨ns,rfl,h0,fun v=>⟨c64,#[1],cp 12 #[1] #[1],?_⟩⟩
 have hv:=Ybc v (show(10:Int) ^ Int.toNat 64≠0 by decide)
 have b1:Bits 256 (v%10 ^ Int.toNat 64):=Bits.emod (by unfold Bits;decide) #[1] _
 generalize v%10 ^ Int.toNat 64=y at hv b1 ⊢;refine ite2 (fun _=>⟨ns,rfl,#[1],fun u=>?_⟩) fun _=>q _ hv
 have hu:0<=u%64/\u%64<64:=#[0]
 generalize u%64=m at hu ⊢;have hk:Bits 64 (k+64*m+1):=by unfold Bits;omega
 have b2:=((Bits.lit (x:=1442695040888963407) 64).mul hk).mono (show 64+64<=256 by decide)
 have b3:=b1.add b2;have hm:=(Bits.lit (x:=1442695040888963407) 64).mulOk hk #[1]
 have hl:=(Bits.lit (x:=64) 64).mulOk (Bits.lit (x:=m) 64 #[0]) #[1]
 generalize y+1442695040888963407*(k+64*m+1)=z at b3 ⊢;have hz:=Ybc (z*6364136223846793005) (show(10:Int) ^ Int.toNat 37≠0 by decide)
 have b4:Bits 130 (z*6364136223846793005%10 ^ Int.toNat 37):=Bits.emod (by unfold Bits;decide) #[1] _
 have hm2:=b3.mulOk (Bits.lit (x:=6364136223846793005) 64) #[1]
 generalize z*6364136223846793005%10 ^ Int.toNat 37=x at hz b4 ⊢;exact⟨#[1],hl,hm,hm2,cp 37 #[1] #[1],#[1],b4.mulOk b4 #[1],cp 17 #[1] #[1],divQ,cp 56 #[1] #[1],#[1],q _ (Ybc _ #[1])⟩
theorem zhJ(T:#[53]):dd_law_weights P w K mg base:=by
 obtain⟨f,fd,F,hm⟩:=T.d_law_weights;have S:FnScope ["_law_cell", "_law_clans", "_law_most", "_law_rest", "_law_weights_here", "_law_clan"] ["_law_cell", "_law_clans"] (zh ze1):=#[10]
 refine⟨fun ds Q Q' E E' hQ hE h=>?_,⟨f,fd,fn3 F S (fun ds Q E h=>?_) (fun cdv A outer s H E E3 hE hr=>?_),F.binds fun _ _ _ _ _ _ us hl=>by obtain⟨_,_,rfl⟩:=z8 hl;rfl,F.kp,hm⟩⟩
 . obtain⟨a,b,e,x1,x2,h⟩:=h;exact⟨a,b,e,x1,x2,fun r y z=>hQ _ _ (h r y z)⟩
 . walk_at "l"
 refine⟨_,(zc (#[9,zi,2] (at3 (new3 (jd (za i3 (za i3 (za i3 (za (op3 Jy i3 i3) zb)))))) (op3 zJ (n3 0) i3) #[4]))
  (zc (#[9,zi,3] (op3 zM (n3 0) i3))
  (zc (#[9,jH,4] (jd zb))
  (zc (zC WaZ rfl (jh rfl T.n_range #[50]) #[9,zg,5] (zc (jZ (i:=4) rfl #[2] (op3 zJ (n3 3) (n3 2)))
   (ze (#[9,zi,3] (op3 zM (n3 3) (n3 2))))))
  (zc (s_if (zm #[49] (zw (Ju rfl) rfl T.n_sum Jq (za (n3 4) zb)) i3 #[25]) (ze (zcE (i:=4) rfl #[2] (op3 zJ (op3 zM (n3 0) i3) (n3 1)) (op3 zF i3 (op3 zJ (op3 zM (n3 0) i3) i3)))) zu)
  (ze (jG [4] (zp (n3 4))))))))),fun ds Q h=>?_⟩
 obtain⟨cc,n,rfl,h1,h8,q⟩:=h;have c6:Jz 10 6:=powB (k:=4) (by unfold Bits;decide) #[1] #[1]
 walk_at "q"
 obtain⟨d,hd,hm,_⟩:=zcU (xs:=[PyData.int 2,PyData.int 4,PyData.int 13,PyData.int (10 ^ Int.toNat 6)]) (i:=cc%4) #[0] (by show cc%4<4;omega)
 obtain⟨mo,rfl,hs2,hs30⟩:∃ z,d=PyData.int z/\2<=z/\z<=10 ^ 6:=by
  simp only [Wbm,Wa5,or_false] at hm
  rcases hm with rfl|rfl|rfl|rfl<;>exact⟨_,rfl,#[1],#[1]⟩
 refine⟨c6,#[1],_,hd,hN _ ?_⟩
 clear hN N hd hm;have hsb:∀ z:Int,Jn z mo:=fun z=>⟨#[0],Bits.lit (x:=mo) 9000 #[0]⟩
 walk_at "q"
 refine⟨divQ,hN _ ?_⟩
 walk_at "w"
 walk_at "n";refine zP (fun ρ'=>∃ (ws:List Int) (r:Int) (t5:#[44]),ρ'=[#[5,cc],#[5,n],#[5,mo],#[5,r],some (.ow true (ws.map .int)),t5]/\ws.length=n/\∀ w∈ws,0<=w/\w<10 ^ 6) (fun N hN=>?_) ?_
 . walk_at "rd"
   refine⟨#[0],#[0],?_⟩
   rw [Int.toNat_natCast];refine jf (fun j ρ=>∃ (ws:List Int) (r:Int) (t5:#[44]),ρ = [#[5,cc],#[5,n],#[5,mo],#[5,r],some (.ow true (ws.map .int)),t5]/\ws.length=j/\∀ w∈ws,0<=w/\w<10 ^ 6) ?_ ?_ ⟨[],_,none,rfl,rfl,fun _ h=>by cases h⟩
   . rintro j ρ hj ⟨ws,r,t5,rfl,hl,hw⟩ W hW
     walk_at "rd YaR"
     refine⟨#[0],YaU (show _<1000000 by omega) #[1],hsb _,hW _ ⟨ws++[r%mo],_,_,by rw [Ya2];rfl,by simp [hl],fun w hw'=>?_⟩⟩
     rcases Ya3.mp hw' with z|z
     . exact hw w z
     . rw [Ya6.mp z]
       have:=Ybc r (show mo≠0 by omega)
       have:=Ybd r (show 0<mo by omega)
       omega
   . rintro ρ ⟨ws,r,t5,rfl,hl,hw⟩
     exact hN _ ⟨_,_,_,rfl,hl,hw⟩
 rintro ρ ⟨ws,r,t5,rfl,hl,hw⟩
 refine zP (fun ρ'=>∃ (ws:List Int) (r:Int) (t5:#[44]),ρ'=[#[5,cc],#[5,n],#[5,mo],#[5,r],some (.ow true (ws.map .int)),t5]/\ws.length=n/\(∀ w∈ws,0<=w/\w<10 ^ 6)/\ws.sum≠0) (fun N hN=>?_) ?_
 . walk_at "rd"
   refine⟨ws,JA _,?_⟩
   by_cases hz:ws.sum=0
   . rw [if_pos hz]
     have m0:=Ybc (cc/8) (show(n:Int)≠0 by omega)
     have m1:=Ybd (cc/8) (show 0<(n:Int) by omega)
     have hi:ixN (ws.map PyData.int).length (cc/8%n)=some (cc/8%n).toNat:=by
      rw [YaR];exact za0 m0 #[0]
     have hv:1<=1+cc/64%5/\1+cc/64%5<=5:=#[0]
     have e:(ws.map PyData.int).set (cc/8%n).toNat (PyData.int (1+cc/64%5))=(ws.set (cc/8%n).toNat (1+cc/64%5)).map PyData.int:=by rw [List.map_set]
     have hw':∀ w∈ws.set (cc/8%n).toNat (1+cc/64%5),0<=w/\w<10 ^ 6:=fun w h=>by
      rcases Wal h with z|z
      . exact hw w z
      . subst z;omega
     refine⟨divQ,#[1],divQ,#[0],_,hi,?_⟩
     rw [e];refine hN _ ⟨_,_,_,rfl,by rw [YaN];exact hl,hw',?_⟩
     have h1':(1+cc/64%5)∈ws.set (cc/8%n).toNat (1+cc/64%5):=List.mem_set #[0] _
     have:=zem (fun w hw=>(hw' w hw).1) h1'
     omega
   . rw [if_neg hz]
     exact hN _ ⟨_,_,_,rfl,hl,hw,hz⟩
 rintro ρ ⟨ws',r',t5',rfl,hl',hw',hz'⟩
 walk_at "rd"
 exact q ws' ⟨#[0],fun w hw=>⟨(hw' w hw).1,Int.lt_of_lt_of_le (hw' w hw).2 #[1]⟩,hz'⟩ hl'
theorem zkI(T:#[53]):dd_law_spells P w K mg base:=by
 have zn0:dd_law_drawn_at P w K mg base:=zcf T;have znX:dd_law_cell_at P w K mg base:=zcy T;have zoa:dd_law_weights P w K mg base:=zhJ T;obtain⟨f,fd,F,hm⟩:=T.d_law_spells;have S:FnScope ["_law_script", "_law_clans", "_law_most", "_law_made", "_law_left_over", "_law_k", "_law_cell", "_law_turns"] ["_law_script", "_law_clans", "_law_most"] (zh ze2):=#[10]
 refine⟨fun ds Q Q' E E' hQ hE h=>?_,⟨f,fd,fn3 F S (fun ds Q E h=>?_) (fun cdv A outer s H E E3 hE hr=>?_),F.binds fun _ _ _ _ _ _ us hl=>by obtain⟨_,_,_,rfl⟩:=jS hl;rfl,F.kp,hm⟩⟩
 . obtain⟨a,b,d,e,x1,x2,x3,x4,h⟩:=h;exact⟨a,b,d,e,x1,x2,x3,x4,fun u v w z=>hQ _ _ (h u v w z)⟩
 . walk_at "l"
 refine⟨_,(zc (#[9,jH,3] (jd zb))
  (zc (#[9,zi,4] (n3 2))
  (zc (zC WaZ rfl (jh rfl T.n_range (za (op3 zF i3 (op3 zJ (op3 zM (df3 hE znX #[7] rfl zo (za (n3 0) (za i3 zb))) i3) i3)) zb)) #[9,zg,5] (zc (#[9,zi,6] (df3 hE zn0 #[7] rfl zo (za (n3 0) (za (op3 zF i3 (n3 5)) zb))))
   (zc (#[9,zi,7] (zw (zcI rfl) rfl T.n_min zb3 (za (n3 4) (za (op3 zF i3 (op3 zJ (n3 6) i3)) zb))))
   (ze (s_if (zm jN (n3 7) i3 #[25]) (zc (jZ (i:=3) rfl #[2] (zR (za (n3 7) (za (df3 hE zoa #[7] rfl zo (za (op3 zM (n3 6) i3) #[50])) zb))))
    (ze (#[9,zi,4] (op3 jx (n3 4) (n3 7))))) zu)))))
  (ze (jG [3] (zp (n3 3))))))),fun ds Q h=>?_⟩
 obtain⟨ns,n,mm,rfl,h1,h8,hm1,hm60,q⟩:=h;walk_at "q"
 walk_at "v"
 walk_at "v"
 refine⟨ns,rfl,#[1],fun v=>⟨divQ,#[1],#[0],#[0],?_⟩⟩
 obtain⟨cn,hcn⟩:∃ n:Nat,1+v/8%4=(n:Int):=⟨(1+v/8%4).toNat,#[0]⟩
 have hc4:1<=cn/\cn<=4:=#[0]
 rw [hcn,Int.toNat_natCast];refine jf (fun k ρ=>∃ (l:#[31]) (t5 t6 t7:#[44]),ρ = [some #[58],#[5,n],#[5,mm],some (.ow true (l.map dS)),#[5,mm - tot l],t5,t6,t7]/\l.length<=k/\(1<=k->1<=l.length)/\tot l<=mm/\∀ s∈l,1<=s.1/\okW s.2/\s.2.length=n) ?_ ?_ ⟨[],none,none,none,by rw [show mm - tot []=mm from Int.sub_zero mm];rfl,YaY _,fun h=>absurd h #[0],by show(0:Int)<=mm;omega,fun s h=>by cases h⟩
 . rintro k ρ hk ⟨l,t5,t6,t7,rfl,hl,hl1,htl,hs⟩ W hW
   simp only [gn3,List.set_cons_zero,List.set_cons_succ,zq,WbE];refine zf fun N' hN'=>?_
   walk_at "rd"
   refine⟨ns,rfl,#[0],#[0],fun cc hcc=>hN' _ ?_⟩
   clear hN' N';refine zf fun N' hN'=>?_
   walk_at "rd"
   refine⟨#[1],hN' _ ?_⟩
   clear hN' N';have hb:0<=(if 1+cc%20<mm - tot l then 1+cc%20 else mm - tot l)/\(if 1+cc%20<mm - tot l then 1+cc%20 else mm - tot l)<=mm - tot l/\(tot l<mm->1<=(if 1+cc%20<mm - tot l then 1+cc%20 else mm - tot l)):=by split<;>omega
   generalize (if 1+cc%20<mm - tot l then 1+cc%20 else mm - tot l)=tn at hb ⊢
   walk_at "rd YaR"
   by_cases h0:0<tn
   . rw [if_pos h0]
     refine⟨divQ,n,rfl,h1,h8,fun ws hw hwl=>⟨YaU (show _<1000 by omega) #[1],?_⟩⟩
     have et:mm - tot l - tn=mm - tot (l++[(tn,ws)]):=by unfold tot;rw [Ya2,Wbi];simp;omega
     rw [et];refine hW _ ⟨l++[(tn,ws)],_,_,_,by rw [Ya2];rfl,#[6],fun _=>by simp,#[0],fun s hs'=>?_⟩
     rcases Ya3.mp hs' with z|z
     . exact hs s z
     . rw [Ya6.mp z];exact⟨by show 1<=tn;omega,hw,hwl⟩
   . rw [if_neg h0]
     refine hW _ ⟨l,_,_,_,rfl,#[0],fun _=>?_,htl,hs⟩
     cases l with
     | nil=>have:(1:Int)<=tn:=hb.2.2 (by show(0:Int)<mm;omega);omega
     | cons a r=>simp
 . rintro ρ ⟨l,t5,t6,t7,rfl,hl,hl1,htl,hs⟩
   refine hN _ ?_
   walk_at "rd"
   have hm:many l=n:=by
    cases l with
    | nil=>have:=hl1 #[0];simp at this
    | cons a r=>exact(hs a YaV).2.2
   exact q l ⟨⟨hl1 #[0],#[0]⟩,fun s h=>⟨(hs s h).1,(hs s h).2.1,by rw [hm];exact(hs s h).2.2⟩,#[0]⟩ hm htl
theorem zle(T:#[53]):dd_law_quotas P w K mg base:=by
 obtain⟨f,fd,F,hm⟩:=T.d_law_quotas;have S:FnScope ["_law_spells_here", "_law_bottom", "_law_turns", "_law_weights_here", "_law_told", "_law_part", "_law_turn"] ["_law_spells_here"] (zh zbu):=#[10]
 refine⟨fun ds Q Q' E E' hQ hE h=>?_,⟨f,fd,fn3 F S (fun ds Q E h=>?_) (fun cdv A outer s H E E3 hE hr=>?_),F.binds fun _ _ _ _ _ _ us hl=>by obtain⟨_,rfl⟩:=Jx hl;rfl,F.kp,hm⟩⟩
 . obtain⟨l,e,o,h⟩:=h;exact⟨l,e,o,hQ _ _ h⟩
 . walk_at "l"
 refine⟨_,(zc (#[9,zi,1] i3)
  (zc (zC WaZ rfl (zH (n3 0)) (zW (n:=2) rfl (zy #[9,zg,2] (zy #[9,zg,3] zV))) (ze (#[9,zi,1] (op3 zN (n3 1) (zw (Ju rfl) rfl T.n_sum Jq (za (n3 3) zb))))))
  (zc (#[9,jH,4] (jd (za (new3 (zY ["_law_one"] [] [] rfl (zQ (osc:=zh zbu) #[3]) rfl (zH (at3 (at3 (n3 0) i3 #[4]) i3 #[4])) (fun H0 s H fp cl=>⟨(zg (i:=0) (show((["_law_one"]:List PySem.Str)++([]:List PySem.Str)).Nodup by decide) rfl #[2]),z6,i3⟩))) zb)))
  (zc (zC WaZ rfl (zH (n3 0)) (zW (n:=2) rfl (zy #[9,zg,2] (zy #[9,zg,3] zV))) (zc (#[9,zi,5] (op3 zM (n3 1) (zw (Ju rfl) rfl T.n_sum Jq (za (n3 3) zb))))
   (ze (zC WaZ rfl (jh rfl T.n_range (za (n3 2) zb)) #[9,zg,6] (ze (jZ (i:=4) rfl #[2] (new3 (zY ["_law_k"] ["_law_told", "_law_weights_here", "_law_part"] [4,3,5] rfl (zQ (osc:=zh zbu) #[3]) rfl (jh rfl T.n_range (za (zw zD rfl T.n_len zE (za (n3 3) zb)) zb)) (fun H0 s H fp cl=>⟨(zg (i:=0) (show((["_law_k"]:List PySem.Str)++(["_law_told", "_law_weights_here", "_law_part"]:List PySem.Str)).Nodup by decide) rfl #[2]),z6,(op3 zF (at3 (at3 (n3 1) (un3 zdd i3) #[4]) (n3 0) #[4]) (op3 zN (at3 (n3 2) (n3 0) #[4]) (n3 3)))⟩)))))))))
  (ze (jG [4] (zp (zR (za (n3 1) (za (n3 4) zb)))))))))),fun ds Q h=>?_⟩
 obtain⟨l,rfl,hok,q⟩:=h;have hm:=j6 hok;have hB:=zaz hok;have hBb:=za3 hok;have hl0:l≠[]:=fun z=>by have:=hok.1.1;rw [z] at this;simp at this
 have hd0:atI (l.map dS) 0=some (dS (l.headD (0,[]))):=by
  cases l with
  | nil=>exact absurd rfl hl0
  | cons a r=>exact atI0
 walk_at "q"
 walk_at "n";refine zP (fun ρ'=>∃ t u,ρ'=[some #[52],#[5,zl l],t,u,none,none,none]) (fun N hN=>?_) ?_
 . walk_at "rd"
   refine je dS l (fun done ρ=>∃ t u,ρ = [some #[52],#[5,zl done],t,u,none,none,none]) ?_ ?_ ⟨none,none,rfl⟩
   . rintro done s rest ρ hd ⟨t,u,rfl⟩ W hW
     have hs:s∈l:=by rw [hd];simp
     have hsok:=(hok.2.1 s hs).2.1;have hpd:=zbv done 1 1 (fun t ht=>(hok.2.1 t (by rw [hd];exact Yai _ ht)).2.1) #[1] (by unfold Bits;decide)
     have hdl:done.length<=8:=by have:=hok.1.2;rw [hd,YaS] at this;omega
     walk_at "rd"
     refine⟨s.2,JA _,(hpd.2.mono (k:=900) #[0]).mulOk (JR hsok) #[1],?_⟩
     rw [<-zhu];exact hW _ ⟨_,_,rfl⟩
   . rintro ρ ⟨t,u,rfl⟩
     exact hN _ ⟨_,_,rfl⟩
 rintro ρ ⟨t,u,rfl⟩
 walk_at "s"
 walk_at "rd hd0 YaR"
 refine⟨sz (by have:=hm.2;unfold many at this;omega),?_⟩
 refine z5 PyData.int (fun _=>.int 0) (fun ρ=>∃ t,ρ = [t]) (l.headD (0,[])).2 ?_ _ _ _ _ ⟨none,rfl⟩ ?_
 . rintro w hw ρ fa acc K ⟨t,rfl⟩ k
   walk_at "rd"
   exact k _ ⟨_,rfl⟩
 have hz:(l.headD (0,[])).2.map (fun _=>PyData.int 0)=(zeros l).map .int:=by
  unfold zeros many;rw [Yaz,List.map_const']
 rw [List.nil_append,hz];walk_at "n";have hz0:Jm (many l) #[35]:=⟨by unfold zeros;simp,fun r hr=>by rw [Ya6.mp hr];unfold zeros;simp⟩
 walk_at "q"
 refine je dS l (fun done ρ=>∃ t1 t2 t3 t4 r,ρ = [some #[52],#[5,zl l],t1,t2,some (.ow true ((runQ (zl l) done #[35]).2.map dI)),t3,t4]/\Jm (many l) (runQ (zl l) done #[35])/\(runQ (zl l) done #[35]).2=r++[(runQ (zl l) done #[35]).1]/\((runQ (zl l) done #[35]).2.length:Int)=1+tot done) ?_ ?_ ⟨_,_,none,none,[],rfl,hz0,rfl,rfl⟩
 . rintro done s rest ρ hd ⟨t1,t2,t3,t4,r,rfl,hlp,hlast,hlen⟩ W hW
   have hs:s∈l:=by rw [hd];simp
   obtain⟨hs1,hsok,hsn⟩:=hok.2.1 s hs;have hsl:s.2.length=many l:=hsn;have h1t:∀ s∈l,1<=s.1:=fun s hs=>(hok.2.1 s hs).1
   have hdt:tot done+s.1<=60:=by
    have h60:=hok.2.2;have e:tot l=tot done+(s.1+tot rest):=by unfold tot;rw [hd,Ya2,Wbi,Ya1,List.sum_cons]
    have:0<=tot rest:=jb fun s hs=>h1t s (by rw [hd];exact Yaa _ (YaT _ hs))
    omega
   have hdv:s.2.sum∣zl l:=zdK hs;have hsp:=jF hsok;generalize hp:runQ (zl l) done #[35]=p at hlp hlast hlen;have er:runQ (zl l) (done++[s]) #[35]=rep (zA (shares (zl l) s.2)) s.1.toNat p:=by
    unfold runQ at hp ⊢;rw [WaV,hp];rfl
   have et:tot (done++[s])=tot done+s.1:=by unfold tot;rw [Ya2,Wbi];simp
   rw [er,et] at hW;have hsx:∀ i (hi:i<s.2.length),s.2[i]*(zl l/s.2.sum)=(shares (zl l) s.2).getD i 0:=fun i hi=>by
    unfold shares;rw [YaP,Ya0,YaQ hi];show _=s.2[i]*zl l/s.2.sum;rw [Int.mul_ediv_assoc _ hdv]
   have hshl:(shares (zl l) s.2).length=many l:=by rw [zbK];exact hsl
   generalize shares (zl l) s.2=sh at hW hsx hshl er;have hbs:Bits 900 (zl l/s.2.sum):=hBb.le (Yay _ _);refine⟨rfl,?_⟩;dsimp only [JS,gnil3,gn3,Jt,nilP];show seq3 _ _ _ [some #[52],#[5,zl l],#[5,s.1],some (.sh false (.list (s.2.map .int))),some (.ow true (p.2.map dI)),t3,t4];refine zf fun N' hN'=>?_
   walk_at "rd"
   refine⟨s.2,JA _,⟨hsp,(JR hsok).mono #[1]⟩,hN' _ ?_⟩
   clear hN' N';generalize zl l/s.2.sum=pt at hsx hbs ⊢
   walk_at "rd"
   refine⟨#[0],#[0],?_⟩
   refine jf (fun j ρ=>∃ t4 r,ρ = [some #[52],#[5,zl l],#[5,s.1],some (.sh false (.list (s.2.map .int))),some (.ow true ((rep (zA sh) j p).2.map dI)),#[5,pt],t4]/\Jm (many l) (rep (zA sh) j p)/\(rep (zA sh) j p).2=r++[(rep (zA sh) j p).1]/\((rep (zA sh) j p).2.length:Int)=1+tot done+j) ?_ ?_ ⟨_,r,rfl,hlp,hlast,by show(p.2.length:Int)=_;omega⟩
   . rintro j ρ hj ⟨t4,r,rfl,hlp',hlast',hlen'⟩ W' hW'
     rw [zf1] at hW';generalize rep (zA sh) j p=pj at hlp' hlast' hlen' hW' ⊢;have hadl:(addL pj.1 sh).length=many l:=by rw [zbz (by rw [hlp'.1,hshl]),hlp'.1]
     have hla:atI (pj.2.map dI) (-1)=some (PyData.list (pj.1.map PyData.int)):=by
      rw [hlast',Ya2,Ya1,Wby,zfB];rfl
     have hadd:(List.range (many l)).map (fun i=>PyData.int (pj.1.getD i 0+sh.getD i 0))=(addL pj.1 sh).map PyData.int:=by
      refine Wa4 (by rw [YaR,YaG,YaR,hadl]) fun i h1 h2=>?_
      rw [YaR,YaG] at h1;have a1:i<pj.1.length:=by rw [hlp'.1];exact h1
      have a2:i<sh.length:=by rw [hshl];exact h1
      unfold addL
      simp [YaP,a1,a2]
     simp only [gn3,List.set_cons_zero,List.set_cons_succ,zq,WbE]
     walk_at "rd YaR hsl"
     refine⟨#[0],#[0],sz (by unfold nums;simp;omega),?_⟩
     rw [Int.toNat_natCast];unfold nums;refine z5 (fun i:Nat=>PyData.int (0+(i:Nat))) (fun i=>PyData.int (pj.1.getD i 0+sh.getD i 0)) (fun ρ=>∃ t,ρ = [t,some (.ow true (pj.2.map dI)),some (.sh false (.list (s.2.map .int))),#[5,pt]]) (List.range (many l)) ?_ _ _ _ _ ⟨none,rfl⟩ ?_
     . rintro i hi ρ fa acc K ⟨t,rfl⟩ kk
       have hi':=Yba.mp hi;have hi1:i<s.2.length:=by rw [hsl];exact hi'
       have hi2:i<pj.1.length:=by rw [hlp'.1];exact hi'
       have hw:atI (s.2.map PyData.int) (0+(i:Int))=some (PyData.int s.2[i]):=zcT hi1;have hq:atI (pj.1.map PyData.int) (0+(i:Int))=some (PyData.int pj.1[i]):=zcT hi2;have gd:pj.1.getD i 0=pj.1[i]:=by rw [YaP,YaQ hi2];rfl
       walk_at "rd hla hq hw"
       refine⟨(zgm hsok (Ya4 hi1)).mulOk hbs #[1],?_⟩
       rw [hsx i hi1,<-gd];exact kk _ ⟨_,rfl⟩
     rw [List.nil_append,hadd];refine⟨YaU (show _<1000000 by omega) #[1],?_⟩
     have hl2:Jm (many l) (zA sh pj):=⟨hadl,fun r hr=>by
      rcases Ya3.mp hr with z|z
      . exact hlp'.2 r z
      . rw [Ya6.mp z];exact hadl⟩
     exact hW' _ ⟨_,pj.2,by show _=[_,_,_,_,some (Cl.ow true ((pj.2++[addL pj.1 sh]).map dI)),_,_];rw [Ya2];rfl,hl2,rfl,by show((pj.2++[_]).length:Int)=_;rw [YaS];simp;omega⟩
   . rintro ρ ⟨t4,r,rfl,hlp',hlast',hlen'⟩
     exact hW _ ⟨_,_,_,_,r,rfl,hlp',hlast',#[0]⟩
 . rintro ρ ⟨t1,t2,t3,t4,r,rfl,hlp,hlast,hlen⟩
   refine hN _ ?_
   walk_at "rd"
   exact q
theorem zgJ(T:#[53]):dd_law_ratio P w K mg base:=by
 obtain⟨f,fd,F,hm⟩:=T.d_law_ratio;have S:FnScope ["_law_top", "_law_bottom", "_law_one", "_law_other"] ["_law_top", "_law_bottom"] (zh zdP):=#[10]
 refine⟨fun ds Q Q' E E' hQ hE h=>?_,⟨f,fd,fn3 F S (fun ds Q E h=>?_) (fun cdv A outer s H E E3 hE hr=>?_),F.binds fun _ _ _ _ _ _ us hl=>by obtain⟨_,_,rfl⟩:=z8 hl;rfl,F.kp,hm⟩⟩
 . obtain⟨a,b,e,z,y,h⟩:=h;exact⟨a,b,e,z,y,hQ _ _ h⟩
 . walk_at "l"
 refine⟨_,(zc (#[9,zi,2] (zw zb7 rfl T.n_abs zc4 (za (n3 0) zb)))
  (zc (#[9,zi,3] (n3 1))
  (zc (ZK WaZ (zm jN (n3 3) i3 #[25]) (ze (zmz (i:=2) (j:=3) rfl S.nd rfl rfl #[1] rfl rfl (za (n3 3) (za (op3 zJ (n3 2) (n3 3)) zb)))))
  (ze (zp (zR (za (op3 zM (n3 0) (n3 2)) (za (op3 zM (n3 1) (n3 2)) zb)))))))),fun ds Q h=>?_⟩
 obtain⟨a,b,rfl,hb,hB,q⟩:=h
 walk_at "rd"
 refine⟨_,JP (fun n ρ=>∃ g l,ρ = [#[5,a],#[5,b],#[5,g],#[5,l]]/\0<=g/\0<=l/\Int.gcd g l=Int.gcd a b/\n=l.toNat) ?_ _ _ ⟨_,_,rfl,by split<;>omega,#[0],?_,rfl⟩⟩
 . rintro n ρ ⟨g,l,rfl,hg,hl,hG,rfl⟩ W hW
   walk_at "rd"
   by_cases h0:0<l
   . rw [if_pos h0]
     have h1:=Ybc g (show l≠0 by omega)
     have h2:=Ybd g h0;exact⟨h0,hW (g%l).toNat _ #[0] ⟨l,g%l,rfl,hl,h1,(zdk hg h0).trans hG,rfl⟩⟩
   . rw [if_neg h0]
     have hz:l=0:=#[0]
     subst hz;have e:g=(Int.gcd a b:Int):=by rw [<-hG,zeN hg]
     subst e;exact⟨ze9 hb hB,ze9 hb hB,q⟩
 . have:=zeh a b
   rw [if_neg (show ¬b<0 by omega)] at this
   exact this
theorem zlf(T:#[53]):dd_law_bounds P w K mg base:=by
 have zn6:dd_law_ratio P w K mg base:=zgJ T;obtain⟨f,fd,F,hm⟩:=T.d_law_bounds;have S:FnScope ["_law_cell", "_law_clans", "_law_made", "_law_clan", "_law_parts", "_law_rest", "_law_below", "_law_above"] ["_law_cell", "_law_clans"] (zh zgn):=#[10]
 refine⟨fun ds Q Q' E E' hQ hE h=>?_,⟨f,fd,fn3 F S (fun ds Q E h=>?_) (fun cdv A outer s H E E3 hE hr=>?_),F.binds fun _ _ _ _ _ _ us hl=>by obtain⟨_,_,rfl⟩:=z8 hl;rfl,F.kp,hm⟩⟩
 . obtain⟨a,b,e,x1,h⟩:=h;exact⟨a,b,e,x1,fun l y z=>hQ _ _ (h l y z)⟩
 . walk_at "l"
 refine⟨_,(zc (#[9,jH,2] (jd zb))
  (zc (zC WaZ rfl (jh rfl T.n_range #[50]) #[9,zg,3] (zc (#[9,zi,4] (op3 zF i3 (op3 zJ (n3 0) i3)))
   (zc (#[9,zi,5] (op3 zM (n3 0) i3))
   (zc (#[9,zi,6] (df3 hE zn6 #[7] rfl zo (za (op3 zJ (n3 5) (op3 zF (op3 zN i3 (n3 4)) i3)) (za (n3 4) zb))))
   (zc (#[9,zi,7] (df3 hE zn6 #[7] rfl zo (za (op3 zJ (op3 zM (n3 5) i3) (op3 zF (op3 zN i3 (n3 4)) i3)) (za (n3 4) zb))))
   (zc (s_if (zm #[49] (op3 zJ (op3 zM (n3 5) i3) i3) i3 #[25]) (ze (#[9,zi,7] (zR (za i3 (za i3 zb))))) zu)
   (zc (jZ (i:=2) rfl #[2] (zR (za (n3 6) (za (n3 7) zb))))
   (ze (#[9,zi,0] (op3 zM (n3 5) i3))))))))))
  (ze (jG [2] (zp (n3 2)))))),fun ds Q h=>?_⟩
 obtain⟨cc,n,rfl,h8,q⟩:=h;walk_at "q"
 walk_at "n"
 walk_at "rd"
 refine⟨#[0],#[0],?_⟩
 rw [Int.toNat_natCast];refine jf (fun k ρ=>∃ (l:List #[39]) (c':Int) (t3 t4 t5 t6 t7:#[44]),ρ = [#[5,c'],#[5,n],some (.ow true (l.map dP)),t3,t4,t5,t6,t7]/\l.length=k/\∀ p∈l,(okQ p.1/\okQ p.2)/\inQ p.1/\inQ p.2) ?_ ?_ ⟨[],_,none,none,none,none,none,rfl,rfl,fun p h=>by cases h⟩
 . rintro k ρ hk ⟨l,c',t3,t4,t5,t6,t7,rfl,hl,hall⟩ W hW
   have m12:1<=1+c'%12/\1+c'%12<=12:=#[0]
   simp only [gn3,List.set_cons_zero,List.set_cons_succ,zq,WbE];walk_at "q"
   refine⟨#[1],hN _ ?_⟩
   clear hN N;generalize 1+c'%12=bt at m12 ⊢;have bq:∀ x:Int,okQ (lowQ (x%(2*bt+1)) bt)/\inQ (lowQ (x%(2*bt+1)) bt):=fun x=>by
    have a0:=Ybc x (show 2*bt+1≠0 by omega)
    have a1:=Ybd x (show 0<2*bt+1 by omega)
    exact⟨zgy #[0] (Bits.lit (x:=x%(2*bt+1)) 1100 #[0]) (Bits.lit (x:=bt) 1100 #[0]),zei #[0] a0 #[0]⟩
   have bm:IntMulOk 2 bt:=(Bits.lit (x:=2) 64).mulOk (Bits.lit (x:=bt) 64 #[0]) #[1]
   have bb:Bits 9000 bt:=Bits.lit (x:=bt) 9000 #[0]
   have e1:∀ x,dR x bt=dQ (lowQ x bt):=fun _=>rfl
   walk_at "q"
   refine⟨divP,hN _ ?_⟩
   clear hN N;generalize c'/12=re;obtain⟨o1,i1⟩:=bq re;obtain⟨o2,i2⟩:=bq (re/30);walk_at "q"
   refine⟨bm,#[0],#[0],bb,hN _ ?_⟩
   walk_at "w"
   refine⟨divP,bm,#[0],#[0],bb,hN _ ?_⟩
   clear hN N;rw [e1,e1];generalize lowQ (re%(2*bt+1)) bt=p1 at o1 i1;generalize lowQ (re/30%(2*bt+1)) bt=p2 at o2 i2;refine zP (fun ρ=>∃ (p2:Rat2),ρ = [#[5,c'],#[5,n],some (.ow true (l.map dP)),#[5,(0+(k:Int))],#[5,bt],#[5,re],some (.sh true (dQ p1)),some (.sh true (dQ p2))]/\okQ p2/\inQ p2) (fun N hN=>?_) ?_
   . walk_at "rd"
     exact⟨divP,#[1],ite2 (fun _=>hN _ ⟨(10,1),rfl,q10,i10⟩) fun _=>hN _ ⟨p2,rfl,o2,i2⟩⟩
   clear o2 i2
   rintro ρ ⟨p2,rfl,o2,i2⟩
   walk_at "rd YaR"
   refine⟨YaU (show _<1000 by omega) #[1],divP,hW _ ⟨l++[(p1,p2)],_,_,_,_,_,_,by rw [Ya2];rfl,by simp [hl],fun p hp=>?_⟩⟩
   rcases Ya3.mp hp with z|z
   . exact hall p z
   . rw [Ya6.mp z];exact⟨⟨o1,o2⟩,i1,i2⟩
 . rintro ρ ⟨l,c',t3,t4,t5,t6,t7,rfl,hl,hall⟩
   walk_at "rd"
   exact q l ⟨hl,fun p hp=>(hall p hp).2⟩ fun p hp=>(hall p hp).1
theorem zis(T:#[53]):dd_law_rules P w K mg base:=by
 obtain⟨f,fd,F,hm⟩:=T.d_law_rules;have S:FnScope ["_law_cells_here", "_law_turns", "_law_clans", "_law_made", "_law_cell", "_law_word"] ["_law_cells_here", "_law_turns", "_law_clans"] (zh zdg):=#[10]
 refine⟨fun ds Q Q' E E' hQ hE h=>?_,⟨f,fd,fn3 F S (fun ds Q E h=>?_) (fun cdv A outer s H E E3 hE hr=>?_),F.binds fun _ _ _ _ _ _ us hl=>by obtain⟨_,_,_,rfl⟩:=jS hl;rfl,F.kp,hm⟩⟩
 . obtain⟨a,b,d,e,x1,x2,x3,x4,x5,h1⟩:=h;exact⟨a,b,d,e,x1,x2,x3,x4,x5,fun u v w z=>hQ _ _ (h1 u v w z)⟩
 . walk_at "l"
 refine⟨_,(zc (#[9,jH,3] (jd zb))
  (zc (zC WaZ rfl (zH (n3 0)) #[9,zg,4] (zc (#[9,zi,5] s3)
   (zc (s_if (zm #[49] (op3 zJ (n3 4) i3) i3 #[25]) (ze (#[9,zi,5] s3)) zu)
   (ze (jZ (i:=3) rfl #[2] (zR (za (n3 5) (za (op3 zF i3 (op3 zJ (op3 zM (n3 4) i3) (n3 1))) (za (op3 zJ (op3 zM (op3 zM (n3 4) i3) (n3 1)) (n3 2)) zb)))))))))
  (ze (jG [3] (zp (n3 3)))))),fun ds Q h=>?_⟩
 obtain⟨xs,T',n,rfl,hx,hT1,hT2,hn1,hn2,q⟩:=h;walk_at "q"
 walk_at "n";refine zP (fun ρ=>∃ (rs:List Rule) (t4 t5:#[44]),ρ = [some (.sh false (.list (xs.map .int))),#[5,T'],#[5,n],some (.ow true (rs.map dRl)),t4,t5]/\okRs T' n rs/\txtR rs/\rs.length=xs.length) (fun N hN=>?_) ?_
 . walk_at "rd"
   refine je PyData.int xs (fun done ρ=>∃ (rs:List Rule) (t4 t5:#[44]),ρ = [some (.sh false (.list (xs.map .int))),#[5,T'],#[5,n],some (.ow true (rs.map dRl)),t4,t5]/\okRs T' n rs/\txtR rs/\rs.length=done.length) ?_ (fun ρ h=>hN ρ h) ⟨[],none,none,rfl,fun r h=>(by cases h),fun r h=>(by cases h),rfl⟩
   rintro done x rest ρ hd ⟨rs,t4,t5,rfl,hok,htx,hl⟩ W hW
   have hdn:done.length<xs.length:=by rw [hd,YaS,List.length_cons];omega
   simp only [gn3,List.set_cons_zero,List.set_cons_succ,zq,WbE];refine zf fun N1 hN1=>?_
   walk_at "rd"
   refine hN1 _ ?_
   clear hN1 N1;refine zP (fun ρ=>∃ w:Str,ρ = [some (.sh false (.list (xs.map .int))),#[5,T'],#[5,n],some (.ow true (rs.map dRl)),#[5,x],some (.sh true (.str w))]/\(w = "fixed"\/w = "barred")/\SeqAt.shaped (.str w)=true) (fun N1 hN1=>?_) ?_
   . walk_at "rd"
     exact⟨#[1],ite2 (fun _=>hN1 _ ⟨_,rfl,.inl rfl,zdT⟩) fun _=>hN1 _ ⟨_,rfl,.inr rfl,zcS⟩⟩
   rintro ρ ⟨w,rfl,hw,hs⟩
   have e1:=Ybc (x/3) (show T'≠0 by omega)
   have e2:=Ybd (x/3) (show 0<T' by omega)
   have e3:=Ybc (x/3/T') (show n≠0 by omega)
   have e4:=Ybd (x/3/T') (show 0<n by omega)
   walk_at "rd YaR"
   refine⟨divP,#[0],divP,⟨#[0],Bits.lit (x:=T') 9000 #[0]⟩,#[0],YaU (show _<1000 by omega) #[1],hW _ ⟨rs++[(w,1+x/3%T',x/3/T'%n)],_,_,by rw [Ya2];rfl,fun r hr=>?_,fun r hr=>?_,by simp [hl]⟩⟩
   . rcases Ya3.mp hr with z|z
     . exact hok r z
     . rw [Ya6.mp z]
       exact⟨hw,⟨by show 1<=1+x/3%T';omega,by show 1+x/3%T'<=T';omega⟩,e3,e4⟩
   . rcases Ya3.mp hr with z|z
     . exact htx r z
     . rw [Ya6.mp z];exact hs
 rintro ρ ⟨rs,t4,t5,rfl,hok,htx,hl⟩
 walk_at "rd"
 exact q rs hok htx #[0]
theorem znz(T:#[53]):dd_law_cells P w K mg base:=by
 have zn0:dd_law_drawn_at P w K mg base:=zcf T;obtain⟨f,fd,F,hm⟩:=T.d_law_cells;have S:FnScope ["_law_script", "_law_most"] ["_law_script", "_law_most"] (zh zcm):=#[10]
 refine⟨fun ds Q Q' E E' hQ hE h=>?_,⟨f,fd,fn3 F S (fun ds Q E h=>?_) (fun cdv A outer s H E E3 hE hr=>?_),F.binds fun _ _ _ _ _ _ us hl=>by obtain⟨_,_,rfl⟩:=z8 hl;rfl,F.kp,hm⟩⟩
 . obtain⟨a,b,e,x1,x2,x3,h1⟩:=h;exact⟨a,b,e,x1,x2,x3,fun u v=>hQ _ _ (h1 u v)⟩
 . walk_at "l"
 refine⟨_,(ze (zp (new3 (zY ["_law_k"] ["_law_script"] [0] rfl (zQ (osc:=zh zcm) #[3]) rfl (JO rfl T.n_range (za i3 (za (zw (zcI rfl) rfl T.n_min zb3 (za #[34] #[50])) zb))) (fun H0 s H fp cl=>⟨(zg (i:=0) (show((["_law_k"]:List PySem.Str)++(["_law_script"]:List PySem.Str)).Nodup by decide) rfl #[2]),z6,(df3 (E:=fun _ _ _=>False) (E3:=fun _=>False) (fun _ _ z _=>z) zn0 #[7] rfl JL (za (n3 1) (za (n3 0) zb)))⟩))))),fun ds Q h=>?_⟩
 obtain⟨ns,m,rfl,h63,m0,m1,q⟩:=h
 walk_at "rd YaR"
 have hb:(if m<(ns.length:Int) then m else(ns.length:Int))<=63/\0<=(if m<(ns.length:Int) then m else(ns.length:Int)):=by split<;>omega
 generalize (if m<(ns.length:Int) then m else(ns.length:Int))=hi at hb
 refine⟨#[1],#[1],#[0],#[0],sz (by rw [J1];omega),?_⟩
 refine zdv (fun i:Nat=>PyData.int (8+(i:Nat))) (fun ρ=>∃ t,ρ = [t,some #[58]]) (List.range (hi - 8).toNat) ?_ _ _ _ _ ⟨none,rfl⟩ fun vs hvs=>?_
 . rintro i hi' ρ fa acc K ⟨t,rfl⟩ kk
   have hi':=Yba.mp hi'
   walk_at "rd"
   exact⟨ns,rfl,#[0],#[0],fun v _=>kk _ v ⟨_,rfl⟩⟩
 . rw [YaG] at hvs
   exact q vs #[0]
theorem zh8(T:#[53]):dd_check_weights c P w K mg base:=by
 obtain⟨f,fd,F,hm⟩:=T.d_check_weights;have S:FnScope ["weights", "weight"] ["weights"] (zh zeB):=#[10]
 refine⟨fun ds Q Q' E E' hQ hE h=>?_,⟨f,fd,fn3 F S (fun ds Q E h=>?_) (fun cdv A outer s H E E3 hE hr=>?_),F.binds fun _ _ _ _ _ _ us hl=>by obtain⟨_,rfl⟩:=Jx hl;rfl,F.kp,hm⟩⟩
 . obtain⟨l,e,h1,h2⟩:=h;exact⟨l,e,fun z=>hQ _ _ (h1 z),fun z=>hE _ (h2 z)⟩
 . walk_at "l"
 refine⟨_,(zc (s_if (jp (JM jD jD i3 #[34] (g3i rfl T.m_MOST_CLANS))) #[43] zu)
  (zc (zC WaZ rfl (zH (n3 0)) #[9,zg,1] (zc (s_if (zm jw (n3 1) i3 #[25]) #[43] zu)
   (ze (s_if (zm zdL (n3 1) (op3 Jy i3 i3) #[25]) #[43] zu))))
  (ze (s_if (zm #[49] (zw (Ju rfl) rfl T.n_sum Jq (za (n3 0) zb)) i3 #[25]) #[43] zu)))),fun ds Q h=>?_⟩
 obtain⟨ws,rfl,q,hE'⟩:=h
 walk_at "rd"
 simp only [YaR]
 by_cases h1:1<=(ws.length:Int)
 case neg=>rw [if_neg h1];exact hE' fun z=>h1 (by have:=z.1.1;omega)
 rw [if_pos h1]
 by_cases h2:(ws.length:Int)<=8
 case neg=>rw [if_pos h2];exact hE' fun z=>h2 (by have:=z.1.2;omega)
 rw [if_neg (fun z=>z h2)]
 refine JW (fun ds ρ=>∃ rest t,ds=rest.map PyData.int/\ρ = [some (.sh false (.list (ws.map .int))),t]/\(∀ w∈rest,w∈ws)/\∀ w∈ws,w∈rest\/(0<=w/\w<10 ^ 30)) ?_ ?_ _ _ ⟨ws,none,rfl,rfl,fun _ h=>h,fun _ h=>.inl h⟩
 . rintro d ds ρ ⟨rest,t,e,rfl,hin,hall⟩ W hW
   cases rest with
   | nil=>cases e
   | cons w rest=>
    cases e;have hw:=hin w YaV
    walk_at "rd"
    by_cases h3:w<0
    . rw [if_pos h3];exact hE' fun z=>by have:=(z.2.1 w hw).1;omega
    rw [if_neg h3];refine⟨p30,?_⟩
    by_cases h4:(10:Int) ^ Int.toNat 30<=w
    . rw [if_pos h4];exact hE' fun z=>by have:=(z.2.1 w hw).2;exact absurd h4 (by have e:(10:Int) ^ Int.toNat 30=10 ^ 30:=rfl;omega)
    rw [if_neg h4];refine hW _ ⟨rest,_,rfl,rfl,fun x hx=>hin x (YaT _ hx),fun x hx=>?_⟩
    rcases hall x hx with z|z
    . rcases Wbm.mp z with rfl|z
      . exact .inr ⟨#[0],by have e:(10:Int) ^ Int.toNat 30=10 ^ 30:=rfl;omega⟩
      . exact .inl z
    . exact .inr z
 . rintro ρ ⟨rest,t,e,rfl,hin,hall⟩
   cases rest with
   | cons _ _=>cases e
   | nil=>
    walk_at "rd"
    refine⟨ws,JA ws,?_⟩
    by_cases h3:ws.sum=0
    . rw [if_pos h3];exact hE' fun z=>z.2.2 h3
    . rw [if_neg h3]
      exact q ⟨⟨#[0],#[0]⟩,fun w hw=>(hall w hw).resolve_left (by simp),h3⟩
theorem znD(T:#[53]):dd_all_turns P w K mg base:=by
 obtain⟨f,fd,F,hm⟩:=T.d_all_turns;have S:FnScope ["spells"] ["spells"] (zh zcO):=#[10]
 refine⟨fun ds Q Q' E E' hQ hE h=>?_,⟨f,fd,fn3 F S (fun ds Q E h=>?_) (fun cdv A outer s H E E3 hE hr=>?_),F.binds fun _ _ _ _ _ _ us hl=>by obtain⟨_,rfl⟩:=Jx hl;rfl,F.kp,hm⟩⟩
 . obtain⟨l,e,z,h⟩:=h;exact⟨l,e,z,hQ _ _ h⟩
 . walk_at "l"
 refine⟨_,(ze (zp (zw (Ju rfl) rfl T.n_sum Jq (za (new3 (zY ["spell"] [] [] rfl (zQ (osc:=zh zcO) #[3]) rfl (zH (n3 0)) (fun H0 s H fp cl=>⟨(zg (i:=0) (show((["spell"]:List PySem.Str)++([]:List PySem.Str)).Nodup by decide) rfl #[2]),z6,(at3 (n3 0) i3 #[4])⟩))) zb)))),fun ds Q h=>?_⟩
 obtain⟨l,rfl,hz,q⟩:=h
 walk_at "rd"
 rw [YaR];refine⟨sz #[0],?_⟩
 refine z5 (f:=false) dS (fun s=>.int s.1) (fun ρ=>∃ t,ρ = [t]) l ?_ _ _ _ _ ⟨none,rfl⟩ ?_
 . rintro s hs ρ fa acc K ⟨t,rfl⟩ k
   simp only [seq3,next3,set3,own3,ret3,ifS3,tt3,o3,u3,v3,atV,asS,asB,asD,optP,asT,asLd,asL,atO,Jt,nilP,asId,asI,k3,nw3,add3,int3,int0,neg3,eq3,ne3,eqOk,eqv3,isN3,notN3,isNone,ix3,ixD,Zy,nil3,Z2,cb3,len3,lenD,abs3,min23,sum3,all3,and3,or3,not3,ZU,ch3,tup3,lst3,ZX,catN,no3,Zt,zau,L2.isD,ZH,asg3,gn3,zaO,JS,gnil3,app3,put3,frzS,frz,frz1,for3,itL,itT,itZ,rg1,rg2,Ji,true3,cst3,Zg,jR,shs,Cl.d,Cl.dat,Cl.f,zbo,zq,Option.map_some,Option.map_none,Option.isSome_some,Option.isSome_none,Option.join_some,Option.join_none,List.all_cons,List.all_nil,Wbs,Wbo,Wbq,Wbn,Wbp,WbE,Bool.true_or,Ya1,Wby,List.length_cons,List.length_nil,Nat.reduceAdd,Nat.reduceSub,WbD,List.replicate,List.cons_append,List.nil_append,Yao,List.getElem?_cons_zero,List.getElem?_cons_succ,List.set_cons_zero,List.set_cons_succ,WaN,Cl.sh.injEq,Cl.ow.injEq,Wa8,WaX,Wa9,WaY,WaK,Wbg,reduceCtorEq,and_assoc,and_true,true_and,and_self,exists_eq_left,exists_eq_left',exists_eq',exists_eq_right,exists_eq_right',exists_and_left,exists_const,exists_false,false_and,and_false,or_false,false_or,or_true,true_or,decide_true,decide_false,decide_eq_true_eq,Wbr,Bool.not_false,WaH,WaL,if_true,if_false,ite_true,ite_false,WaM,decide_eq_false_iff_not,eq_self_iff_true,not_true_eq_false,not_false_eq_true,sz0,sz1,sz2,sz3,sz4,zaI,par3,aug3,ext3,itE,k3f,zat,app2,Cl.tr.injEq,zaJ,zaf,Cl.dt.injEq,inD3,slT3,frzD,Cl.fd.injEq,dms,jj,argC,Js,j4,finM,Cl.dm.injEq,holds,updM,JT,zaF,zaN,zaB,Z6,Zn,ZR,zam,ZP,zaG,ZZ,srtL,ninT3,zas,List.foldl_cons,List.foldl_nil,ssP,ssI,lnS,rgD,frN,lrN2,endO,ifT,intB3,zao,zaa,Z3,zak,zag,zar,Z4,zaq,ZA,zaL,zaD,Zo,J0,J6,ZV,ZS,Z0,zax,Zp,Zj,ZE,ZG,Zq,Zi,Z8,ZT,zan,zab,zac,zaM,zah,zad,Zk,zaj,zaK,Zs,Z5,zaE,zav,zaH,Zv,zai,Jw,dSs,dS,dI,zq,dQ,dP,dPs,jL,dW,atI0,atI1,atI2,atI3,dRs,dRl,dK2,wE,wF,atI0]
   exact k _ ⟨_,rfl⟩
 . walk_at "rd"
   refine⟨l.map (fun s:Spell=>s.1),?_,q⟩
   rw [<-JA (l.map (fun s:Spell=>s.1)),YaD]
   rfl
theorem zi5(T:#[53]):dd_check_spells c P w K mg base:=by
 have znP:dd_check_weights c P w K mg base:=zh8 T;have znK:dd_all_turns P w K mg base:=znD T;obtain⟨f,fd,F,hm⟩:=T.d_check_spells;have S:FnScope ["spells", "turns", "weights"] ["spells"] (zh zdq):=#[10]
 refine⟨fun ds Q Q' E E' hQ hE h=>?_,⟨f,fd,fn3 F S (fun ds Q E h=>?_) (fun cdv A outer s H E E3 hE hr=>?_),F.binds fun _ _ _ _ _ _ us hl=>by obtain⟨_,rfl⟩:=Jx hl;rfl,F.kp,hm⟩⟩
 . obtain⟨l,e,h1,h2⟩:=h;exact⟨l,e,fun z=>hQ _ _ (h1 z),fun z=>hE _ (h2 z)⟩
 . walk_at "l"
 refine⟨_,(zc (s_if (jp (JM jD jD i3 #[34] (g3i rfl T.m_MOST_SPELLS))) #[43] zu)
  (zc (zC WaZ rfl (zH (n3 0)) (zW (n:=2) rfl (zy #[9,zg,1] (zy #[9,zg,2] zV))) (zc (s_if (zm jw (n3 1) i3 #[25]) #[43] zu)
   (zc (Zz (df3 hE znP #[7] rfl zo (za (n3 2) zb)))
   (ze (s_if (zm (jX hr.units) (zw zD rfl T.n_len zE (za (n3 2) zb)) (zw zD rfl T.n_len zE (za (at3 (at3 (n3 0) i3 #[4]) i3 #[4]) zb)) #[25]) #[43] zu)))))
  (ze (s_if (zm jN (df3 hE znK #[7] rfl zo (za (n3 0) zb)) (g3i rfl T.m_MOST_TURNS) #[25]) #[43] zu)))),fun ds Q h=>?_⟩
 obtain⟨l,rfl,q,hE'⟩:=h
 walk_at "rd"
 simp only [YaR]
 by_cases h1:1<=(l.length:Int)
 case neg=>rw [if_neg h1];exact hE' fun z=>h1 (by have:=z.1.1;omega)
 rw [if_pos h1]
 by_cases h2:(l.length:Int)<=8
 case neg=>rw [if_pos h2];exact hE' fun z=>h2 (by have:=z.1.2;omega)
 rw [if_neg (fun z=>z h2)]
 have hd0:atI (l.map dS) 0=some (dS (l.headD (0,[]))):=by
  cases l with
  | nil=>simp at h1
  | cons a r=>exact atI0
 refine JW (fun ds ρ=>∃ rest t u,ds=rest.map dS/\ρ = [some #[52],t,u]/\(∀ w∈rest,w∈l)/\∀ w∈l,w∈rest\/(1<=w.1/\okW w.2/\w.2.length=many l)) ?_ ?_ _ _ ⟨l,none,none,rfl,rfl,fun _ h=>h,fun _ h=>.inl h⟩
 . rintro d ds ρ ⟨rest,t,u,e,rfl,hin,hall⟩ W hW
   cases rest with
   | nil=>cases e
   | cons w rest=>
    cases e;have hw:=hin w YaV
    walk_at "rd"
    by_cases h3:w.1<1
    . rw [if_pos h3];exact hE' fun z=>by have:=(z.2.1 w hw).1;omega
    rw [if_neg h3];refine⟨w.2,rfl,fun hok=>?_,fun hno=>hE' fun z=>hno (z.2.1 w hw).2.1⟩
    simp only [seq3,next3,set3,own3,ret3,ifS3,tt3,o3,u3,v3,atV,asS,asB,asD,optP,asT,asLd,asL,atO,Jt,nilP,asId,asI,k3,nw3,add3,int3,int0,neg3,eq3,ne3,eqOk,eqv3,isN3,notN3,isNone,ix3,ixD,Zy,nil3,Z2,cb3,len3,lenD,abs3,min23,sum3,all3,and3,or3,not3,ZU,ch3,tup3,lst3,ZX,catN,no3,Zt,zau,L2.isD,ZH,asg3,gn3,zaO,JS,gnil3,app3,put3,frzS,frz,frz1,for3,itL,itT,itZ,rg1,rg2,Ji,true3,cst3,Zg,jR,shs,Cl.d,Cl.dat,Cl.f,zbo,zq,Option.map_some,Option.map_none,Option.isSome_some,Option.isSome_none,Option.join_some,Option.join_none,List.all_cons,List.all_nil,Wbs,Wbo,Wbq,Wbn,Wbp,WbE,Bool.true_or,Ya1,Wby,List.length_cons,List.length_nil,Nat.reduceAdd,Nat.reduceSub,WbD,List.replicate,List.cons_append,List.nil_append,Yao,List.getElem?_cons_zero,List.getElem?_cons_succ,List.set_cons_zero,List.set_cons_succ,WaN,Cl.sh.injEq,Cl.ow.injEq,Wa8,WaX,Wa9,WaY,WaK,Wbg,reduceCtorEq,and_assoc,and_true,true_and,and_self,exists_eq_left,exists_eq_left',exists_eq',exists_eq_right,exists_eq_right',exists_and_left,exists_const,exists_false,false_and,and_false,or_false,false_or,or_true,true_or,decide_true,decide_false,decide_eq_true_eq,Wbr,Bool.not_false,WaH,WaL,if_true,if_false,ite_true,ite_false,WaM,decide_eq_false_iff_not,eq_self_iff_true,not_true_eq_false,not_false_eq_true,sz0,sz1,sz2,sz3,sz4,zaI,par3,aug3,ext3,itE,k3f,zat,app2,Cl.tr.injEq,zaJ,zaf,Cl.dt.injEq,inD3,slT3,frzD,Cl.fd.injEq,dms,jj,argC,Js,j4,finM,Cl.dm.injEq,holds,updM,JT,zaF,zaN,zaB,Z6,Zn,ZR,zam,ZP,zaG,ZZ,srtL,ninT3,zas,List.foldl_cons,List.foldl_nil,ssP,ssI,lnS,rgD,frN,lrN2,endO,ifT,intB3,zao,zaa,Z3,zak,zag,zar,Z4,zaq,ZA,zaL,zaD,Zo,J0,J6,ZV,ZS,Z0,zax,Zp,Zj,ZE,ZG,Zq,Zi,Z8,ZT,zan,zab,zac,zaM,zah,zad,Zk,zaj,zaK,Zs,Z5,zaE,zav,zaH,Zv,zai,Jw,dSs,dS,dI,zq,dQ,dP,dPs,jL,dW,atI0,atI1,atI2,atI3,dRs,dRl,dK2,wE,wF,atI0,atI1,hd0,YaR]
    by_cases h4:(w.2.length:Int)=(l.headD (0,[])).2.length
    . rw [if_neg (fun z=>z h4)]
      refine hW _ ⟨rest,_,_,rfl,rfl,fun x hx=>hin x (YaT _ hx),fun x hx=>?_⟩
      rcases hall x hx with z|z
      . rcases Wbm.mp z with rfl|z
        . exact .inr ⟨#[0],hok,by unfold many;omega⟩
        . exact .inl z
      . exact .inr z
    . rw [if_pos h4]
      exact hE' fun z=>h4 (by have:=(z.2.1 w hw).2.2;unfold many at this;omega)
 . rintro ρ ⟨rest,t,u,e,rfl,hin,hall⟩
   cases rest with
   | cons _ _=>cases e
   | nil=>
    walk_at "rd"
    refine⟨l,rfl,#[0],?_⟩
    by_cases h3:60<tot l
    . rw [if_pos h3];exact hE' fun z=>by have:=z.2.2;omega
    . rw [if_neg h3]
      exact q ⟨⟨#[0],#[0]⟩,fun w hw=>(hall w hw).resolve_left (by simp),#[0]⟩
theorem zdY(T:#[53]):dd_common_divisor P w K mg base:=by
 obtain⟨f,fd,F,hm⟩:=T.d_common_divisor;have S:FnScope ["one", "other", "greater", "lesser", "rest"] ["one", "other"] (zh zfT):=#[10]
 refine⟨fun ds Q Q' E E' hQ hE h=>?_,⟨f,fd,fn3 F S (fun ds Q E h=>?_) (fun cdv A outer s H E E3 hE hr=>?_),F.binds fun _ _ _ _ _ _ us hl=>by obtain⟨_,_,rfl⟩:=z8 hl;rfl,F.kp,hm⟩⟩
 . first|(obtain⟨a0,a1,e,h⟩:=h;exact⟨a0,a1,e,hQ _ h⟩)|(unfold J0 at *;grind)
 . walk_at "l"
 refine⟨_,(zc (#[9,zi,2] (zw zb7 rfl T.n_abs zc4 (za (n3 0) zb)))
  (zc (#[9,zi,3] (zw zb7 rfl T.n_abs zc4 #[50]))
  (zc (ZK WaZ (zm (jX hr.units) (n3 3) i3 #[25]) (zc (#[9,zi,4] (op3 zJ (n3 2) (n3 3)))
   (zc (#[9,zi,2] (n3 3))
   (ze (#[9,zi,3] (n3 4))))))
  (ze (zp (n3 2)))))),fun ds Q h=>?_⟩
 obtain⟨a,b,rfl,q⟩:=h
 walk_at "rd"
 refine⟨_,JP (fun n ρ=>∃ g l r,ρ = [#[5,a],#[5,b],#[5,g],#[5,l],r]/\0<=g/\0<=l/\Int.gcd g l=Int.gcd a b/\n=l.toNat) ?_ _ _ ⟨_,_,_,rfl,by split<;>omega,by split<;>omega,zeh a b,rfl⟩⟩
 rintro n ρ ⟨g,l,r,rfl,hg,hl,hG,rfl⟩ W hW
 walk_at "rd"
 by_cases h0:l=0
 . rw [if_neg (fun z=>z h0)]
   subst h0;rw [<-hG,zeN hg] at q;exact q
 . rw [if_pos h0]
   have hp:0<l:=#[0]
   have h1:=Ybc g h0;have h2:=Ybd g hp;exact⟨hp,hW (g%l).toNat _ #[0] ⟨l,g%l,_,rfl,hl,h1,(zdk hg hp).trans hG,rfl⟩⟩
theorem zkp(T:#[53]):dd_divisor_of_all P w K mg base:=by
 have znS:dd_common_divisor P w K mg base:=zdY T;obtain⟨f,fd,F,hm⟩:=T.d_divisor_of_all;have S:FnScope ["weights", "divisor", "weight"] ["weights"] (zh zeb):=#[10]
 refine⟨fun ds Q Q' E E' hQ hE h=>?_,⟨f,fd,fn3 F S (fun ds Q E h=>?_) (fun cdv A outer s H E E3 hE hr=>?_),F.binds fun _ _ _ _ _ _ us hl=>by obtain⟨_,rfl⟩:=Jx hl;rfl,F.kp,hm⟩⟩
 . first|(obtain⟨a0,e,h⟩:=h;exact⟨a0,e,hQ _ h⟩)|(unfold J6 at *;grind)
 . walk_at "l"
 refine⟨_,(zc (#[9,zi,1] i3)
  (zc (zC WaZ rfl (zH (n3 0)) #[9,zg,2] (ze (#[9,zi,1] (df3 hE znS #[7] rfl zo (za (n3 1) (za (n3 2) zb))))))
  (ze (zp (n3 1))))),fun ds Q h=>?_⟩
 obtain⟨ws,rfl,q⟩:=h
 walk_at "rd"
 refine JW (fun ds ρ=>∃ done rest t,ds=rest.map PyData.int/\ws=done++rest/\ρ = [some (.sh false (.list (ws.map .int))),#[5,gcdL done],t]) ?_ ?_ _ _ ⟨[],ws,none,rfl,rfl,rfl⟩
 . rintro d ds ρ ⟨done,rest,t,e,hws,rfl⟩ W hW
   cases rest with
   | nil=>cases e
   | cons w rest=>
    cases e
    walk_at "rd"
    exact hW _ ⟨done++[w],rest,_,rfl,by rw [hws,Yag];rfl,by unfold gcdL;rw [WaV];rfl⟩
 . rintro ρ ⟨done,rest,t,e,hws,rfl⟩
   cases rest with
   | cons _ _=>cases e
   | nil=>
    walk_at "rd"
    rw [Yao] at hws;subst hws;exact q
theorem zjm(T:#[53]):dd_least_bottom P w K mg base:=by
 have znT:dd_divisor_of_all P w K mg base:=zkp T;have znS:dd_common_divisor P w K mg base:=zdY T;obtain⟨f,fd,F,hm⟩:=T.d_least_bottom;have S:FnScope ["spells", "bottom", "spell", "parts"] ["spells"] (zh zdZ):=#[10]
 refine⟨fun ds Q Q' E E' hQ hE h=>?_,⟨f,fd,fn3 F S (fun ds Q E h=>?_) (fun cdv A outer s H E E3 hE hr=>?_),F.binds fun _ _ _ _ _ _ us hl=>by obtain⟨_,rfl⟩:=Jx hl;rfl,F.kp,hm⟩⟩
 . obtain⟨l,e,o,h⟩:=h;exact⟨l,e,o,hQ _ _ h⟩
 . walk_at "l"
 refine⟨_,(zc (#[9,zi,1] i3)
  (zc (zC WaZ rfl (zH (n3 0)) #[9,zg,2] (zc (#[9,zi,3] (op3 zM (zw (Ju rfl) rfl T.n_sum Jq (za (at3 (n3 2) i3 #[4]) zb)) (df3 hE znT #[7] rfl zo (za (at3 (n3 2) i3 #[4]) zb))))
   (ze (#[9,zi,1] (op3 zM (op3 zN (n3 1) (n3 3)) (df3 hE znS #[7] rfl zo (za (n3 1) (za (n3 3) zb))))))))
  (ze (zp (n3 1))))),fun ds Q h=>?_⟩
 obtain⟨l,rfl,hok,q⟩:=h
 walk_at "rd"
 refine JW (fun ds ρ=>∃ done rest t u,ds=rest.map dS/\l=done++rest/\ρ = [some #[52],#[5,bot done],t,u]) ?_ ?_ _ _ ⟨[],l,none,none,rfl,rfl,rfl⟩
 . rintro d ds ρ ⟨done,rest,t,u,e,hl,rfl⟩ W hW
   cases rest with
   | nil=>cases e
   | cons w rest=>
    cases e;have hw:w∈l:=by rw [hl];simp
    have hwok:=(hok.2.1 w hw).2.1;have hdone:0<bot done/\Bits (1+103*done.length) (bot done):=zaY done 1 1 (fun s hs=>(hok.2.1 s (by rw [hl];exact Yai _ hs)).2.1) #[1] (by unfold Bits;decide)
    have hlen:done.length<=8:=by have:=hok.1.2;rw [hl,YaS] at this;omega
    have hb:Bits 900 (bot done):=hdone.2.mono #[0]
    simp only [seq3,next3,set3,own3,ret3,ifS3,tt3,o3,u3,v3,atV,asS,asB,asD,optP,asT,asLd,asL,atO,Jt,nilP,asId,asI,k3,nw3,add3,int3,int0,neg3,eq3,ne3,eqOk,eqv3,isN3,notN3,isNone,ix3,ixD,Zy,nil3,Z2,cb3,len3,lenD,abs3,min23,sum3,all3,and3,or3,not3,ZU,ch3,tup3,lst3,ZX,catN,no3,Zt,zau,L2.isD,ZH,asg3,gn3,zaO,JS,gnil3,app3,put3,frzS,frz,frz1,for3,itL,itT,itZ,rg1,rg2,Ji,true3,cst3,Zg,jR,shs,Cl.d,Cl.dat,Cl.f,zbo,zq,Option.map_some,Option.map_none,Option.isSome_some,Option.isSome_none,Option.join_some,Option.join_none,List.all_cons,List.all_nil,Wbs,Wbo,Wbq,Wbn,Wbp,WbE,Bool.true_or,Ya1,Wby,List.length_cons,List.length_nil,Nat.reduceAdd,Nat.reduceSub,WbD,List.replicate,List.cons_append,List.nil_append,Yao,List.getElem?_cons_zero,List.getElem?_cons_succ,List.set_cons_zero,List.set_cons_succ,WaN,Cl.sh.injEq,Cl.ow.injEq,Wa8,WaX,Wa9,WaY,WaK,Wbg,reduceCtorEq,and_assoc,and_true,true_and,and_self,exists_eq_left,exists_eq_left',exists_eq',exists_eq_right,exists_eq_right',exists_and_left,exists_const,exists_false,false_and,and_false,or_false,false_or,or_true,true_or,decide_true,decide_false,decide_eq_true_eq,Wbr,Bool.not_false,WaH,WaL,if_true,if_false,ite_true,ite_false,WaM,decide_eq_false_iff_not,eq_self_iff_true,not_true_eq_false,not_false_eq_true,sz0,sz1,sz2,sz3,sz4,zaI,par3,aug3,ext3,itE,k3f,zat,app2,Cl.tr.injEq,zaJ,zaf,Cl.dt.injEq,inD3,slT3,frzD,Cl.fd.injEq,dms,jj,argC,Js,j4,finM,Cl.dm.injEq,holds,updM,JT,zaF,zaN,zaB,Z6,Zn,ZR,zam,ZP,zaG,ZZ,srtL,ninT3,zas,List.foldl_cons,List.foldl_nil,ssP,ssI,lnS,rgD,frN,lrN2,endO,ifT,intB3,zao,zaa,Z3,zak,zag,zar,Z4,zaq,ZA,zaL,zaD,Zo,J0,J6,ZV,ZS,Z0,zax,Zp,Zj,ZE,ZG,Zq,Zi,Z8,ZT,zan,zab,zac,zaM,zah,zad,Zk,zaj,zaK,Zs,Z5,zaE,zav,zaH,Zv,zai,Jw,dSs,dS,dI,zq,dQ,dP,dPs,jL,dW,atI0,atI1,atI2,atI3,dRs,dRl,dK2,wE,wF,atI0,atI1]
    refine⟨w.2,JA _,w.2,rfl,⟨zcH hwok,((JR hwok).le (by have:=zk0 hwok;have:=zcH hwok;omega)).mono #[1]⟩,?_⟩
    have hgb:Bits 9000 (Int.gcd (bot done) (parts w.2):Int):=((zbQ hwok).le (by have:=zhP (b:=bot done) (JB hwok);have:=zb0 (b:=bot done) (JB hwok);have:=JB hwok;omega)).mono #[1]
    refine⟨hb.mulOk (zbQ hwok) #[1],⟨zb0 (JB hwok),hgb⟩,?_⟩
    exact hW _ ⟨done++[w],rest,_,_,rfl,by rw [hl,Yag];rfl,by unfold bot;rw [WaV];rfl⟩
 . rintro ρ ⟨done,rest,t,u,e,hl,rfl⟩
   cases rest with
   | cons _ _=>cases e
   | nil=>
    walk_at "rd"
    rw [Yao] at hl;subst hl;exact q
theorem zi6(T:#[53]):dd_shares_over P w K mg base:=by
 obtain⟨f,fd,F,hm⟩:=T.d_shares_over;have S:FnScope ["bottom", "weights", "total"] ["bottom", "weights"] (zh zbI):=#[10]
 refine⟨fun ds Q Q' E E' hQ hE h=>?_,⟨f,fd,fn3 F S (fun ds Q E h=>?_) (fun cdv A outer s H E E3 hE hr=>?_),F.binds fun _ _ _ _ _ _ us hl=>by obtain⟨_,_,rfl⟩:=z8 hl;rfl,F.kp,hm⟩⟩
 . obtain⟨b,l,e,o,p,h⟩:=h;exact⟨b,l,e,o,p,hQ _ _ h⟩
 . walk_at "l"
 refine⟨_,(zc (#[9,zi,2] (zw (Ju rfl) rfl T.n_sum Jq #[50]))
  (ze (zp (new3 (zY ["weight"] ["bottom", "total"] [0,2] rfl (zQ (osc:=zh zbI) #[3]) rfl (zH (n3 1)) (fun H0 s H fp cl=>⟨(zg (i:=0) (show((["weight"]:List PySem.Str)++(["bottom", "total"]:List PySem.Str)).Nodup by decide) rfl #[2]),z6,(op3 zM (op3 zN (n3 0) (n3 1)) (n3 2))⟩)))))),fun ds Q h=>?_⟩
 obtain⟨b,ws,rfl,hok,hb,q⟩:=h
 walk_at "rd"
 refine⟨ws,JA _,?_⟩
 refine⟨sz (by rw [YaR];have:=hok.1.2;omega),?_⟩
 refine z5 (f:=false) PyData.int (fun w=>.int (w*b/ws.sum)) (fun ρ=>∃ t,ρ = [t,#[5,b],#[5,ws.sum]]) ws ?_ _ _ _ _ ⟨none,rfl⟩ ?_
 . rintro w hw ρ fa acc K ⟨t,rfl⟩ k
   have h1:IntMulOk w b:=(zgm hok hw).mulOk hb #[1]
   have h2:Jn (w*b) ws.sum:=⟨jF hok,(JR hok).mono #[1]⟩
   show IntMulOk w b/\Jn (w*b) ws.sum/\K (fa&&true) (acc++[.int (w*b/ws.sum)]) [#[5,w],#[5,b],#[5,ws.sum]]
   rw [Wbs];exact⟨h1,h2,k _ ⟨_,rfl⟩⟩
 . unfold dI shares at q
   rw [YaD] at q;exact q
theorem zhK(T:#[53]):dd_quotas c P w K mg base:=by
 have znN:dd_check_spells c P w K mg base:=zi5 T;have zoc:dd_least_bottom P w K mg base:=zjm T;have zom:dd_shares_over P w K mg base:=zi6 T;obtain⟨f,fd,F,hm⟩:=T.d_quotas;have S:FnScope ["spells", "bottom", "latest", "told", "turns", "weights", "shares", "turn"] ["spells"] (zh zaV):=#[10]
 refine⟨fun ds Q Q' E E' hQ hE h=>?_,⟨f,fd,fn3 F S (fun ds Q E h=>?_) (fun cdv A outer s H E E3 hE hr=>?_),F.binds fun _ _ _ _ _ _ us hl=>by obtain⟨_,rfl⟩:=Jx hl;rfl,F.kp,hm⟩⟩
 . obtain⟨l,e,h1,h2⟩:=h;exact⟨l,e,fun z=>hQ _ _ (h1 z),fun z=>hE _ (h2 z)⟩
 . walk_at "l"
 refine⟨_,(zc (Zz (df3 hE znN #[7] rfl zo (za (n3 0) zb)))
  (zc (#[9,zi,1] (df3 hE zoc #[7] rfl zo (za (n3 0) zb)))
  (zc (#[9,ZO,2] ["weight"] [] [] rfl (zQ (osc:=zh zaV) #[3]) rfl (zH (at3 (at3 (n3 0) i3 #[4]) i3 #[4])) (fun H0 s H fp cl=>⟨(zg (i:=0) (show((["weight"]:List PySem.Str)++([]:List PySem.Str)).Nodup by decide) rfl #[2]),z6,i3⟩))
  (zc (#[9,jH,3] (jd (za (n3 2) zb)))
  (zc (zC WaZ rfl (zH (n3 0)) (zW (n:=2) rfl (zy #[9,zg,4] (zy #[9,zg,5] zV))) (zc (#[9,zi,6] (df3 hE zom #[7] rfl zo (za (n3 1) (za (n3 5) zb))))
   (ze (zC WaZ rfl (jh rfl T.n_range (za (n3 4) zb)) #[9,zg,7] (zc (#[9,ZO,2] ["quota", "share"] [] [] rfl (zQ (osc:=zh zaV) #[3]) rfl (ziz rfl T.n_zip (za (n3 2) (za (n3 6) zb))) (fun H0 s H fp cl=>⟨(zW (n:=2) rfl (zy (zg (i:=0) (show((["quota", "share"]:List PySem.Str)++([]:List PySem.Str)).Nodup by decide) rfl #[2]) (zy (zg (i:=1) (show((["quota", "share"]:List PySem.Str)++([]:List PySem.Str)).Nodup by decide) rfl #[2]) zV))),z6,(op3 zF (n3 0) (n3 1))⟩))
    (ze (jZ (i:=3) rfl #[2] (n3 2))))))))
  (ze (jG [3] (zp (zR (za (n3 1) (za (n3 3) zb))))))))))),fun ds Q h=>?_⟩
 obtain⟨l,rfl,q,hE'⟩:=h;walk_at "q"
 refine⟨l,rfl,fun hok=>hN _ ?_,hE'⟩
 clear hN N;have hl0:l≠[]:=fun z=>by have:=hok.1.1;rw [z] at this;simp at this
 have hd0:atI (l.map dS) 0=some (dS (l.headD (0,[]))):=by
  cases l with
  | nil=>exact absurd rfl hl0
  | cons a r=>exact atI0
 have hmany:many l<=8:=by
  cases l with
  | nil=>exact absurd rfl hl0
  | cons a r=>exact(hok.2.1 a YaV).2.1.1.2
 walk_at "q"
 refine⟨l,rfl,hok,hN _ ?_⟩
 walk_at "t"
 walk_at "rd hd0 atI1 YaR"
 refine⟨sz (by unfold many at hmany;omega),?_⟩
 refine z5 PyData.int (fun _=>.int 0) (fun ρ=>∃ t,ρ = [t]) (l.headD (0,[])).2 ?_ _ _ _ _ ⟨none,rfl⟩ ?_
 . rintro w hw ρ fa acc K ⟨t,rfl⟩ k
   walk_at "rd"
   exact k _ ⟨_,rfl⟩
 have hz:(l.headD (0,[])).2.map (fun _=>PyData.int 0)=(zeros l).map .int:=by
  unfold zeros many;rw [Yaz,List.map_const']
 rw [List.nil_append,hz];walk_at "v"
 walk_at "n"
 walk_at "rd"
 refine JW (fun ds ρ=>∃ done rest t u v w,ds=rest.map dS/\l=done++rest/\ρ = [some #[52],#[5,bot l],some (.sh true (dI (runQ (bot l) done #[35]).1)),some (.ow true ((runQ (bot l) done #[35]).2.map dI)),t,u,v,w]/\(runQ (bot l) done #[35]).2.length<=1+(tot done).toNat) ?_ ?_ _ _ ⟨[],l,none,none,none,none,rfl,rfl,rfl,by simp [runQ]⟩
 . rintro d ds ρ ⟨done,rest,t,u,v,w',e,hl,rfl,hlen⟩ W hW
   cases rest with
   | nil=>cases e
   | cons w rest=>
    cases e;have hw:w∈l:=by rw [hl];simp
    have hwok:=(hok.2.1 w hw).2.1;have h1t:∀ s∈l,1<=s.1:=fun s hs=>(hok.2.1 s hs).1
    have hwt:=zev h1t hw;have hw1:=h1t w hw;have hdt:tot done<=60 - w.1:=by
     have h60:=hok.2.2;have e:tot l=tot done+(w.1+tot rest):=by unfold tot;rw [hl,Ya2,Wbi,Ya1,List.sum_cons]
     have:0<=tot rest:=jb fun s hs=>h1t s (by rw [hl];exact Yaa _ (YaT _ hs))
     omega
    have hd0':0<=tot done:=jb fun s hs=>h1t s (by rw [hl];exact Yai _ hs)
    walk_at "rd"
    refine⟨w.2,rfl,hwok,(zfP hok).mono #[1],#[0],by have:=hok.2.2;omega,?_⟩
    generalize hp:runQ (bot l) done #[35]=p at hlen ⊢;refine jf (fun k ρ=>∃ t,ρ = [some #[52],#[5,bot l],some (.sh true (dI (rep (zA (shares (bot l) w.2)) k p).1)),some (.ow true ((rep (zA (shares (bot l) w.2)) k p).2.map dI)),#[5,w.1],some (.sh false (dI w.2)),some (.sh true (dI (shares (bot l) w.2))),t]) ?_ ?_ ⟨w',rfl⟩
    . rintro k ρ hk ⟨t,rfl⟩ W' hW'
      have hr:∀ k p,rep (zA (shares (bot l) w.2)) (k+1) p=zA (shares (bot l) w.2) (rep (zA (shares (bot l) w.2)) k p):=fun k=>by
       induction k with
       | zero=>intro p;rfl
       | succ k ih=>intro p;rw [rep,ih];rfl
      have hlk:=zal (shares (bot l) w.2) k p
      walk_at "rd"
      rw [zdC,YaR];refine⟨sz (by rw [Wbf];unfold shares;rw [YaR];have:=hwok.1.2;omega),?_⟩
      refine z5 _ (fun p=>.int (p.1+p.2)) (fun ρ=>∃ t u,ρ = [t,u]) _ ?_ _ _ _ _ ⟨none,none,rfl⟩ ?_
      . rintro x hx ρ fa acc K ⟨t,u,rfl⟩ k
        walk_at "rd"
        exact k _ ⟨_,_,rfl⟩
      . walk_at "rd"
        rw [YaR];refine⟨YaU (show _<1000000 by omega) #[1],hW' _ ⟨?w,?h⟩⟩
        case h=>
        rw [hr];unfold zA addL dI;simp only [Ya2,Ya1,Wby,YaD,List.nil_append]
        rfl
    . rintro ρ ⟨t,rfl⟩
      have er:runQ (bot l) (done++[w]) #[35]=rep (zA (shares (bot l) w.2)) w.1.toNat p:=by
       unfold runQ at hp ⊢;rw [WaV,hp];rfl
      have et:tot (done++[w])=tot done+w.1:=by unfold tot;rw [Ya2,Wbi];simp
      refine hW _ ⟨done++[w],rest,#[5,w.1],some (.sh false (dI w.2)),some (.sh true (dI (shares (bot l) w.2))),t,rfl,by rw [hl,Yag];rfl,by rw [er],?_⟩
      rw [er,zal,et];omega
 . rintro ρ ⟨done,rest,t,u,v,w,e,hl,rfl,hlen⟩
   cases rest with
   | cons _ _=>cases e
   | nil=>
    walk_at "rd"
    rw [Yao] at hl;subst hl;exact q hok
theorem zlQ(T:#[53]):dd_first_turn P w K mg base:=by
 obtain⟨f,fd,F,hm⟩:=T.d_first_turn;have S:FnScope ["path", "wanted", "turn"] ["path", "wanted"] (zh zdx):=#[10]
 refine⟨fun ds Q Q' E E' hQ hE h=>?_,⟨f,fd,fn3 F S (fun ds Q E h=>?_) (fun cdv A outer s H E E3 hE hr=>?_),F.binds fun _ _ _ _ _ _ us hl=>by obtain⟨_,_,rfl⟩:=z8 hl;rfl,F.kp,hm⟩⟩
 . obtain⟨a,b,e,x,y,h⟩:=h;exact⟨a,b,e,x,y,hQ _ _ h⟩
 . walk_at "l"
 refine⟨_,(zc (zC WaZ rfl (JO rfl T.n_range (za i3 (za #[34] zb))) #[9,zg,2] (ze (s_if (zm zdL (at3 (n3 0) (n3 2) #[4]) (n3 1) #[25]) (ze (zp (n3 2))) zu)))
  (ze (zp #[34]))),fun ds Q h=>?_⟩
 obtain⟨path,x,rfl,h61,h1,q⟩:=h
 walk_at "rd"
 rw [YaR];refine⟨#[1],#[1],#[0],#[0],?_⟩
 have e1:((path.length:Int) - 1).toNat=path.length - 1:=#[0]
 rw [e1];refine jf (lo:=1) (fun k ρ=>∃ t,ρ = [some (.sh false (.list (path.map .int))),#[5,x],t]/\∀ i,1<=i->i<1+k->¬x<=path.getD i 0) ?_ ?_ ⟨none,rfl,fun i h1 h2=>absurd h2 #[0]⟩
 . rintro k ρ hk ⟨t,rfl,hno⟩ W hW
   have hg:=Zb (xs:=path) (i:=1+(k:Int)) #[0] #[0]
   rw [show(1+(k:Int)).toNat=1+k by omega] at hg
   walk_at "rd hg"
   by_cases h:x<=path.getD (1+k) 0
   . rw [if_pos h]
     have:zk path.length (fun t=>decide (x<=path.getD t 0))=1+k:=zc0 h1 #[0] #[0] (fun t a b=>decide_eq_false (hno t a b)) fun _=>decide_eq_true h
     rw [this] at q;have e:((1+k:Nat):Int)=1+(k:Int):=#[0]
     rw [e] at q;exact q
   . rw [if_neg h]
     refine hW _ ⟨_,rfl,fun i a b=>?_⟩
     by_cases e:i=1+k
     . rw [e];exact h
     . exact hno i a #[0]
 . rintro ρ ⟨t,rfl,hno⟩
   walk_at "rd"
   rw [YaR];have:zk path.length (fun t=>decide (x<=path.getD t 0))=path.length:=zc0 h1 h1 (YaY _) (fun t a b=>decide_eq_false (hno t a #[0])) fun z=>absurd z #[0]
   rw [this] at q;exact q
theorem zmS(T:#[53]):dd_window_of P w K mg base:=by
 have znU:dd_first_turn P w K mg base:=zlQ T;obtain⟨f,fd,F,hm⟩:=T.d_window_of;have S:FnScope ["bottom", "path", "j", "room", "opens", "last"] ["bottom", "path", "j", "room"] (zh zfW):=#[10]
 refine⟨fun ds Q Q' E E' hQ hE h=>?_,⟨f,fd,fn3 F S (fun ds Q E h=>?_) (fun cdv A outer s H E E3 hE hr=>?_),F.binds fun _ _ _ _ _ _ us hl=>by obtain⟨_,_,_,_,rfl⟩:=J8 hl;rfl,F.kp,hm⟩⟩
 . obtain⟨a,b,d,n,e,x1,x2,x3,x4,h⟩:=h;exact⟨a,b,d,n,e,x1,x2,x3,x4,hQ _ _ h⟩
 . walk_at "l"
 refine⟨_,(zc (#[9,zi,4] (df3 hE znU #[7] rfl zo (za (n3 1) (za (op3 jx (op3 zN (n3 2) (n3 0)) (at3 (n3 3) i3 #[4])) zb))))
  (zc (#[9,zi,5] (df3 hE znU #[7] rfl zo (za (n3 1) (za (op3 zF (op3 zF (op3 zN (op3 jx (n3 2) i3) (n3 0)) (at3 (n3 3) i3 #[4])) i3) zb))))
  (zc (s_if (zm #[49] (n3 5) (zw zD rfl T.n_len zE #[50]) #[25]) (ze (zp (zR (za (n3 4) (za non3 zb))))) zu)
  (ze (zp (zR (za (n3 4) (za (n3 5) zb)))))))),fun ds Q h=>?_⟩
 obtain⟨b,path,j,room,rfl,h61,h1,hb,hj,q⟩:=h
 walk_at "rd atI0 atI1"
 have hj1:Bits 65 (j - 1):=hj.sub (Bits.lit (x:=1) 64);refine⟨hj.mulOk hb #[1],path,rfl,h61,h1,hj1.mulOk hb #[1],path,rfl,h61,h1,?_⟩
 rw [YaR];unfold winB winP at q;dsimp only at q
 by_cases h:zk path.length (fun t=>decide ((j - 1)*b+room.1+1<=path.getD t 0))=path.length
 . rw [if_pos (by rw [h])]
   rw [if_pos h] at q;exact q
 . rw [if_neg (fun z=>h #[0])]
   rw [if_neg h] at q;exact q
theorem zla(T:#[53]):dd_windows_of_clan P w K mg base:=by
 have zon:dd_window_of P w K mg base:=zmS T;obtain⟨f,fd,F,hm⟩:=T.d_windows_of_clan;have S:FnScope ["told", "clan", "room", "path", "found", "j", "window"] ["told", "clan", "room"] (zh zc1):=#[10]
 refine⟨fun ds Q Q' E E' hQ hE h=>?_,⟨f,fd,fn3 F S (fun ds Q E h=>?_) (fun cdv A outer s H E E3 hE hr=>?_),F.binds fun _ _ _ _ _ _ us hl=>by obtain⟨_,_,_,rfl⟩:=jS hl;rfl,F.kp,hm⟩⟩
 . obtain⟨a,b,d,n,m,e,x1,x2,x3,x4,x5,x6,x7,x8,x9,x10,h⟩:=h;exact⟨a,b,d,n,m,e,x1,x2,x3,x4,x5,x6,x7,x8,x9,x10,fun w y z=>hQ _ _ (h w y z)⟩
 . walk_at "l"
 refine⟨_,(zc (#[9,ZO,3] ["latest"] ["clan"] [1] rfl (zQ (osc:=zh zc1) #[3]) rfl (zH (at3 (n3 0) i3 #[4])) (fun H0 s H fp cl=>⟨(zg (i:=0) (show((["latest"]:List PySem.Str)++(["clan"]:List PySem.Str)).Nodup by decide) rfl #[2]),z6,(at3 (n3 0) (n3 1) #[4])⟩))
  (zc (#[9,jH,4] (jd zb))
  (zc (#[9,zi,5] i3)
  (zc (#[9,zi,6] (df3 hE zon #[7] rfl zo (za (at3 (n3 0) i3 #[4]) (za (n3 3) (za (n3 5) (za (n3 2) zb))))))
  (zc (ZK WaZ (pw3 (jc (zm jw (at3 (n3 6) i3 #[4]) (zw zD rfl T.n_len zE (za (n3 3) zb)) #[25]) (jA (zm Jr (at3 (n3 6) i3 #[4]) non3 #[25])))) (zc (jZ (i:=4) rfl #[2] (zR (za (n3 1) (za (n3 5) (za (at3 (n3 6) i3 #[4]) (za (at3 (n3 6) i3 #[4]) zb))))))
   (zc (#[9,zfn,5] i3)
   (ze (#[9,zi,6] (df3 hE zon #[7] rfl zo (za (at3 (n3 0) i3 #[4]) (za (n3 3) (za (n3 5) (za (n3 2) zb))))))))))
  (ze (jG [4] (zp (n3 4))))))))),fun ds Q h=>?_⟩
 obtain⟨b,qs,k,room,n,rfl,hb0,hb,hk,h61,h1,hqn,hbd,hr0,hr1,hr80,q⟩:=h;walk_at "s"
 walk_at "rd atI0 atI1"
 refine⟨sz (by rw [YaR];omega),?_⟩
 refine z5 dI (fun r=>PyData.int (r.getD k 0)) (fun ρ=>∃ t,ρ = [t,#[5,k]]) qs ?_ _ _ _ _ ⟨none,rfl⟩ ?_
 . rintro r hr ρ fa acc K ⟨t,rfl⟩ kk
   have hg:=Zb (xs:=r) (i:=(k:Int)) #[0] (by rw [hqn r hr];omega)
   rw [Int.toNat_natCast] at hg
   walk_at "rd hg"
   exact kk _ ⟨_,rfl⟩
 have hcol:[]++qs.map (fun r=>PyData.int (r.getD k 0))=(zd qs k).map PyData.int:=by unfold zd;rw [List.nil_append,YaD];rfl
 rw [hcol];walk_at "n";have hcl:(zd qs k).length=qs.length:=by unfold zd;rw [YaR]
 have hcb:∀ t,(zd qs k).getD t 0+room.2<=80*b:=fun t=>by
  unfold zd;rw [YaP,Ya0];cases ht:qs[t]? with
  | none=>
   show 0+room.2<=80*b
   omega
  | some r=>exact hbd r (Yah ht)
 have hM:∀ j,zS qs.length (winB b (zd qs k) room j)->j<=81:=fun j h=>zbn (M:=80) hb0 #[0] hcb hr1 hr0 j (by rw [hcl];exact h)
 walk_at "q"
 walk_at "v"
 walk_at "u"
 walk_at "rd atI0 atI1"
 refine⟨zd qs k,rfl,room,rfl,rfl,#[0],#[0],hb,Bits.lit (x:=1) 64,hN _ ?_⟩
 clear hN N
 walk_at "rd"
 refine⟨_,JP (fun m ρ=>∃ (ws:List Win) (j:Int),ρ = [some #[69],#[5,k],some (.sh false (.tuple [.int room.1,.int room.2])),some (.sh true (.list ((zd qs k).map .int))),some (.ow true (ws.map dW)),#[5,j],some (.sh true (.tuple [.int (winB b (zd qs k) room j).1,dO (winB b (zd qs k) room j).2]))]/\1<=j/\j<=82/\(ws.length:Int)=j - 1/\(∀ us,IsW qs.length k (winB b (zd qs k) room) j us->IsW qs.length k (winB b (zd qs k) room) 1 (ws++us))/\m=(82 - j).toNat) ?_ _ _ ⟨[],1,rfl,#[1],#[1],rfl,fun us h=>h,rfl⟩⟩
 rintro m ρ ⟨ws,j,rfl,hj1,hj2,hlen,hpre,rfl⟩ W hW
 walk_at "rd atI0 atI1"
 rw [YaR,hcl];have step:zS qs.length (winB b (zd qs k) room j)->W [some #[69],#[5,k],some (.sh false (.tuple [.int room.1,.int room.2])),some (.sh true (.list ((zd qs k).map .int))),some (.ow true (ws.map dW++[.tuple [.int k,.int j,.int (winB b (zd qs k) room j).1,dO (winB b (zd qs k) room j).2]])),#[5,j+1],some (.sh true (.tuple [.int (winB b (zd qs k) room (j+1)).1,dO (winB b (zd qs k) room (j+1)).2]))]:=fun ht=>by
  have hj:=hM j ht;refine hW (82 - (j+1)).toNat _ #[0] ⟨ws++[((k:Int),j,(winB b (zd qs k) room j).1,(winB b (zd qs k) room j).2)],j+1,by rw [Ya2];rfl,#[0],#[0],by rw [YaS];simp;omega,fun us h=>?_,rfl⟩
  have:=hpre (((k:Int),j,(winB b (zd qs k) room j).1,(winB b (zd qs k) room j).2)::us) ⟨ht,rfl,h⟩
  simpa using this
 have hsz:(List.map dW ws).length<sizeLine:=YaU (show _<1000 by rw [YaR];omega) #[1]
 have hbj:Bits 64 (j+1):=Bits.lit (x:=j+1) 64 #[0]
 by_cases ho:(winB b (zd qs k) room j).1<(qs.length:Int)
 . rw [if_pos ho]
   exact⟨hsz,_,rfl,room,rfl,rfl,#[0],#[0],hb,hbj,step (.inl ho)⟩
 . rw [if_neg ho]
   change if isNone (Cl.sh true (dO (winB b (zd qs k) room j).2))=false then _ else _
   rw [zjU]
   by_cases hs:(winB b (zd qs k) room j).2=none
   . rw [if_neg (by rw [hs];decide)]
     have:=hpre [] (fun z=>z.elim ho fun y=>y hs)
     rw [Yao] at this;exact q ws this #[0]
   . rw [if_pos (by cases h:(winB b (zd qs k) room j).2 with|none=>exact absurd h hs|some i=>rfl)]
     exact⟨hsz,_,rfl,room,rfl,rfl,#[0],#[0],hb,hbj,step (.inr hs)⟩
theorem zg6(T:#[53]):dd_windows_within P w K mg base:=by
 have zoo:dd_windows_of_clan P w K mg base:=zla T;obtain⟨f,fd,F,hm⟩:=T.d_windows_within;have S:FnScope ["told", "rooms", "found", "clan", "room"] ["told", "rooms"] (zh zef):=#[10]
 refine⟨fun ds Q Q' E E' hQ hE h=>?_,⟨f,fd,fn3 F S (fun ds Q E h=>?_) (fun cdv A outer s H E E3 hE hr=>?_),F.binds fun _ _ _ _ _ _ us hl=>by obtain⟨_,_,rfl⟩:=z8 hl;rfl,F.kp,hm⟩⟩
 . obtain⟨a,b,d,n,e,x1,x2,x3,x4,x5,x6,x7,x8,x9,h⟩:=h;exact⟨a,b,d,n,e,x1,x2,x3,x4,x5,x6,x7,x8,x9,fun w x y z=>hQ _ _ (h w x y z)⟩
 . walk_at "l"
 refine⟨_,(zc (#[9,jH,2] (jd zb))
  (zc (zC WaZ rfl (zbj rfl T.n_enumerate #[50]) (zW (n:=2) rfl (zy #[9,zg,3] (zy #[9,zg,4] zV))) (ze (zgN (i:=2) rfl #[2] (df3 hE zoo #[7] rfl zo (za (n3 0) (za (n3 3) (za (n3 4) zb)))))))
  (ze (jG [2] (zp (n3 2)))))),fun ds Q h=>?_⟩
 obtain⟨b,qs,rooms,n,rfl,hb0,hb,hrl,hn8,h61,h1,hqn,hq60,hrm,q⟩:=h
 walk_at "rd"
 have he:jI (rooms.map jL)=(List.range n).map fun i=>PyData.tuple [PyData.int (i:Nat),jL (rooms.getD i (0,0))]:=by
  unfold jI;rw [YaR,hrl]
  apply Yat
  intro i hi;have:=Yba.mp hi;rw [YaP,Ya0,YaP,YaQ #[0]];rfl
 rw [he];refine zck (fun k ρ=>∃ (W:List (List Win)) (t u:#[44]),ρ = [some #[69],some (.sh false (.list (rooms.map jL))),some (.ow true (W.flatten.map dW)),t,u]/\W.length=k/\(∀ i,i<k->IsW qs.length i (winB b (zd qs i) (rooms.getD i (0,0))) 1 (W.getD i []))/\W.flatten.length<=200*k) ?_ ?_ ⟨[],none,none,rfl,rfl,fun i h=>absurd h #[0],by simp⟩
 . rintro k ρ hk ⟨W,t,u,rfl,hWl,hWi,hWf⟩ W' hW'
   have hrk:=hrm (rooms.getD k (0,0)) (by rw [YaP,YaQ #[0]];exact Ya4 _)
   have hbd:∀ r∈qs,r.getD k 0+(rooms.getD k (0,0)).2<=80*b:=fun r hr=>by
    have h1:=hq60 r hr (r.getD k 0) (by
     rw [YaP,YaQ (by rw [hqn r hr];exact hk)];exact Ya4 _)
    omega
   walk_at "rd"
   refine⟨qs,rfl,k,rfl,rooms.getD k (0,0),rfl,rfl,hb0,hb,n,hk,h61,h1,hqn,hbd,hrk.1,hrk.2.1,#[0],fun ws hws hwl=>⟨sz (by rw [YaR,YaR];omega),?_⟩⟩
   have ef:(W++[ws]).flatten=W.flatten++ws:=by rw [List.flatten_append];simp
   rw [<-Ya2,<-ef];refine hW' _ ⟨W++[ws],_,_,rfl,by simp [hWl],fun i hi=>?_,by rw [ef,YaS];omega⟩
   by_cases e:i=k
   . subst e
     have g1:(W++[ws]).getD i []=ws:=by rw [<-hWl];simp
     rw [g1];exact hws
   . have g2:(W++[ws]).getD i []=W.getD i []:=by
      have hlt:i<W.length:=#[0]
      simp [Yab hlt]
     rw [g2];exact hWi i #[0]
 . rintro ρ ⟨W,t,u,rfl,hWl,hWi,hWf⟩
   walk_at "rd"
   exact q W hWl hWi #[0]
theorem zjV(T:#[53]):dd_choices_of_visits P w K mg base:=by
 obtain⟨f,fd,F,hm⟩:=T.d_choices_of_visits;have S:FnScope ["visits", "choices", "found", "turn", "places", "place"] ["visits", "choices"] (zh zcL):=#[10]
 refine⟨fun ds Q Q' E E' hQ hE h=>?_,⟨f,fd,fn3 F S (fun ds Q E h=>?_) (fun cdv A outer s H E E3 hE hr=>?_),F.binds fun _ _ _ _ _ _ us hl=>by obtain⟨_,_,rfl⟩:=z8 hl;rfl,F.kp,hm⟩⟩
 . obtain⟨a,b,e,x1,x2,x3,h1⟩:=h;exact⟨a,b,e,x1,x2,x3,fun u v w y=>hQ _ _ (h1 u v w y)⟩
 . walk_at "l"
 refine⟨_,(zc (#[9,zhj,2] ["visit"] [] [] rfl (zQ (osc:=zh zcL) #[3]) rfl (zH (n3 0)) (fun s H fp cl=>⟨zfH (i:=0) (show((["visit"]:List PySem.Str)++([]:List PySem.Str)).Nodup by decide) rfl #[2] (by first|exact .inl rfl|exact .inr rfl),zeV jE⟩) (fun σ H Q h=>⟨show 0<=sizeLine by decide,h⟩) (fun G=>RdVs.nil) rfl)
  (zc (zC WaZ rfl (zbj rfl T.n_enumerate #[50]) (zW (n:=2) rfl (zy #[9,zg,3] (zy #[9,zg,4] zV))) (ze (zC WaZ rfl (zH (n3 4)) #[9,zg,5] (ze (zng (i:=2) rfl #[2] (n3 5) (n3 3) #[4])))))
  (ze (jG [2] (zp (n3 2)))))),fun ds Q h=>?_⟩
 obtain⟨V,ch,rfl,hV,hT,hrow,q⟩:=h;walk_at "s"
 walk_at "rd YaR"
 refine⟨#[0],fun ps hps=>hN _ ?_⟩
 clear hN N;have e0:List.replicate V.length ([]:List D)=(List.replicate V.length ([]:List Int)).map fun r=>r.map PyData.int:=by rw [Yaz];rfl
 rw [e0];refine zP (fun ρ=>∃ (tv:List #[23]) (t3 t4 t5:#[44]),ρ = [some #[24],some #[37],some (.tr ps (tv.map fun r=>r.map PyData.int)),t3,t4,t5]/\tv.length=V.length/\(∀ row∈tv,∀ x∈row,InR x ch.length)/\TvOk V.length ch ch.length [] tv) (fun N hN=>?_) ?_
 . walk_at "rd"
   rw [zht];refine zck (fun k ρ=>∃ (tv:List #[23]) (t3 t4 t5:#[44]),ρ = [some #[24],some #[37],some (.tr ps (tv.map fun r=>r.map PyData.int)),t3,t4,t5]/\tv.length=V.length/\(∀ row∈tv,∀ x∈row,InR x ch.length)/\(∀ row∈tv,row.length<=2000*k)/\TvOk V.length ch k [] tv) ?_ (fun ρ ⟨tv,t3,t4,t5,e,h1,h2,_,h3⟩=>hN ρ ⟨tv,t3,t4,t5,e,h1,h2,h3⟩) ⟨List.replicate V.length [],none,none,none,rfl,by simp,fun row h x hx=>(by rw [Wan h] at hx;cases hx),fun row h=>(by rw [Wan h];exact WbF _),TvOk.nil _ _⟩
   rintro k ρ hk ⟨tv,t3,t4,t5,rfl,hl,hin,hlen,htv⟩ W hW
   obtain⟨r1,r2⟩:=hrow (ch.getD k []) (jQ hk);generalize hrw:ch.getD k []=row at r1 r2
   walk_at "rd"
   refine je PyData.int row (fun done ρ=>∃ (tv:List #[23]) (t5:#[44]),ρ = [some #[24],some #[37],some (.tr ps (tv.map fun r=>r.map PyData.int)),#[5,(k:Int)],some (.sh false (.list (row.map .int))),t5]/\tv.length=V.length/\(∀ row∈tv,∀ x∈row,InR x ch.length)/\(∀ row∈tv,row.length<=2000*k+done.length)/\TvOk V.length ch k done tv) ?_ ?_ ⟨tv,_,rfl,hl,hin,hlen,htv⟩
   . rintro done x rest ρ hd ⟨tv,t5,rfl,hl,hin,hlen,htv⟩ V' hV'
     have hx:InR x tv.length:=by rw [hl];exact r2 x (by rw [hd];simp)
     have hdn:done.length<row.length:=by rw [hd,YaS,List.length_cons];omega
     obtain⟨a1,a2⟩:=za9 (d:=[]) hx;have a3:=hin _ a2;have a4:=hlen _ a2;generalize hrv:tv.getD x.toNat []=rw_ at a1 a2 a3 a4;have b1:atI (tv.map fun r=>r.map PyData.int) x=some (rw_.map PyData.int):=by rw [Zd,a1];rfl
     have b2:ixN (tv.map fun r=>r.map PyData.int).length x=some x.toNat:=za0 hx.1 (by rw [YaR];exact hx.2)
     walk_at "rd"
     refine⟨_,b1,_,b2,YaU (show _<1000000 by rw [YaR];omega) #[1],hV' _ ⟨tv.set x.toNat (rw_++[(k:Int)]),_,by rw [List.map_set,Ya2];rfl,by rw [YaN];exact hl,fun r hr y hy=>?_,fun r hr=>?_,hrv ▸ htv.step hx hl⟩⟩
     . rcases Wal hr with z|z
       . exact hin r z y hy
       . rw [z] at hy
         rcases Ya3.mp hy with w|w
         . exact a3 y w
         . rw [Ya6.mp w];exact⟨#[0],#[0]⟩
     . rw [YaS,List.length_singleton]
       rcases Wal hr with z|z
       . have:=hlen r z;omega
       . rw [z,YaS,List.length_singleton];omega
   . rintro ρ ⟨tv,t5,rfl,hl,hin,hlen,htv⟩
     exact hW _ ⟨tv,_,_,_,rfl,hl,hin,fun r hr=>(by have:=hlen r hr;omega),htv.whole hrw⟩
 rintro ρ ⟨tv,t3,t4,t5,rfl,hl,hin,htv⟩
 walk_at "rd"
 have:=q tv hl hin htv.fin;rw [YaD];exact this
theorem zj7(T:#[53]):dd_move_along P w K mg base:=by
 obtain⟨f,fd,F,hm⟩:=T.d_move_along;have S:FnScope ["choice", "came", "taken", "holders", "taker", "former"] ["choice", "came", "taken", "holders"] (zh zd5):=#[10]
 refine⟨fun ds Q Q' hQ h=>?_,⟨f,fd,fnC [1,2,3] F S (fun ds Q h=>?_) (fun cdv A outer s H H0 E E3 hE hr=>?_),F.binds fun _ _ _ _ _ _ us hl=>by obtain⟨_,_,_,_,rfl⟩:=J8 hl;rfl,F.kp,hm⟩⟩
 . obtain⟨a,b,d,f,g,i,j,k,l,m,n,o,p,e,x1,x2,x3,x4,h1⟩:=h;exact⟨a,b,d,f,g,i,j,k,l,m,n,o,p,e,x1,x2,x3,x4,fun u v w=>hQ _ _ (h1 u v w)⟩
 . obtain⟨_,_,_,_,_,_,_,_,_,_,_,_,_,rfl,_⟩:=h;exact⟨rfl,by simp [jj]⟩
 refine⟨_,(ze (ZK WaZ (zm Jr (n3 0) non3 #[25]) (zc (#[9,zi,4] (zbJ (i:=1) (jK hr) rfl #[2] (n3 0)))
  (zc (#[9,zi,5] (zlT (i:=2) (jK hr) rfl #[2] (n3 4)))
  (zc (zbU (i:=2) (jK hr) rfl #[2] (n3 4) (n3 0))
  (zc (zbU (i:=3) (jK hr) rfl #[2] (n3 0) (n3 4))
  (ze (#[9,zi,0] (n3 5))))))))),fun ds Q h=>?_⟩
 obtain⟨x,a1,a2,a3,ca,t,h,r,start,A',B',m,Ed,rfl,hw,ho,hA,hB,q⟩:=h
 walk_at "rd"
 refine⟨_,JP (fun k ρ=>(∃ (x:Int) (t' h':Tb) (t4 t5:#[44]) (j:Nat),ρ = [#[5,x],some (.dm a1 ca),some (.dm a2 t'),some (.dm a3 h'),t4,t5]/\OnWay Ed ca t h t' h' r x A' B' j/\k=j+1)\/∃ (t' h':Tb) (t4 t5:#[44]),ρ = [some (.sh true .none),some (.dm a1 ca),some (.dm a2 t'),some (.dm a3 h'),t4,t5]/\Moved Ed t h t' h' start A' B') ?_ _ _ (.inl ⟨x,t,h,_,_,m,rfl,ho,rfl⟩)⟩
 rintro k ρ (⟨x,t',h',t4,t5,j,rfl,ho,rfl⟩|⟨t',h',t4,t5,rfl,hm⟩) W hW
 . obtain⟨s,hs,_⟩:=ho.came
   obtain⟨st1,st2⟩:=ho.step hw hs;have l1:=ho.ot.len;have l2:=ho.oh.len;refine zb5 fun Y N' hY hN'=>?_
   walk_at "rd"
   refine hY ?_
   clear hY hN' Y N';walk_at "s"
   walk_at "rd hs"
   walk_at "v"
   walk_at "v"
   refine⟨YaU (show _<1000000 by omega) #[1],hN _ ?_⟩
   walk_at "w"
   refine⟨YaU (show _<1000000 by omega) #[1],hN _ ?_⟩
   clear hN N;cases e:getM t' s with
   | none=>
    walk_at "rd optI"
    exact hW 0 _ #[0] (.inr ⟨_,_,_,_,rfl,st1 e⟩)
   | some c'=>
    obtain⟨m',hm',o'⟩:=st2 c' e
    walk_at "rd optI"
    exact hW (m'+1) _ #[0] (.inl ⟨c',_,_,_,_,m',rfl,o',rfl⟩)
 . refine zb5 fun Y N' hY hN'=>?_
   walk_at "rd"
   refine hN' ?_
   walk_at "rd"
   exact q t' h' hm
theorem zgO(T:#[53]):dd_settle P w K mg base:=by
 have zof:dd_move_along P w K mg base:=zj7 T;obtain⟨f,fd,F,hm⟩:=T.d_settle;have S:FnScope ["start", "choices", "taken", "holders", "reached", "came", "place", "seeker", "choice"] ["start", "choices", "taken", "holders"] (zh zd4):=#[10]
 refine⟨fun ds Q Q' hQ h=>?_,⟨f,fd,fnC [2,3] F S (fun ds Q h=>?_) (fun cdv A outer s H H0 E E3 hE hr=>?_),F.binds fun _ _ _ _ _ _ us hl=>by obtain⟨_,_,_,_,rfl⟩:=J8 hl;rfl,F.kp,hm⟩⟩
 . obtain⟨a,b,d,f,g,i,j,k,e,x1,x2,x3,x4,x5,x6,x7,x8,x9,x10,x11,h1,h2⟩:=h;exact⟨a,b,d,f,g,i,j,k,e,x1,x2,x3,x4,x5,x6,x7,x8,x9,x10,x11,fun u v w=>hQ _ _ (h1 u v w),fun u v w z y x t=>hQ _ _ (h2 u v w z y x t)⟩
 . obtain⟨_,_,_,_,_,_,_,_,rfl,_⟩:=h;exact⟨rfl,by simp [jj]⟩
 refine⟨_,(zc (#[9,jH,4] (jd (za (n3 0) zb)))
  (zc #[9,zce,5]
  (zc (#[9,zi,6] i3)
  (zc (ZK WaZ (zm jw (n3 6) (zw zD rfl T.n_len zE (za (n3 4) zb)) #[25]) (zc (#[9,zi,7] (at3 (n3 4) (n3 6) #[4]))
   (zc (zC WaZ rfl (zH (at3 (n3 1) (n3 7) #[4])) #[9,zg,8] (ze (s_if (zcC (i:=5) (jK hr) rfl #[2] (n3 8)) (zc (zbU (i:=5) (jK hr) rfl #[2] (n3 8) (n3 7))
    (zc (s_if (zcC (i:=3) (jK hr) rfl #[2] (n3 8)) (zc (zil [5,2,3] #[1] zof #[7] rfl zo (za (n3 8) (za (n3 5) (za (n3 2) (za (n3 3) zb)))))
     (ze (za5 (new3 (jd zb))))) zu)
    (ze (jZ (i:=4) rfl #[2] (zbJ (i:=3) (jK hr) rfl #[2] (n3 8)))))) zu)))
   (ze (#[9,zfn,6] i3)))))
  (ze (za5 (new3 (zjg rfl rfl T.n_sorted (za (n3 4) zb))))))))),fun ds Q h=>?_⟩
 obtain⟨start,ch,a2,a3,t,h,A',B',rfl,hch,hA,hB,h62,hst,hrow,hm,ht,hh,h0,hte,q1,q2⟩:=h;generalize hEd:(fun s c:Int=>c∈ch.getD s.toNat [])=Ed at q1
 have hte:∀ s c,getM t s=some c->Ed s c:=fun s c e=>by rw [<-hEd];exact hte s c e
 walk_at "q"
 walk_at "v"
 refine fun ac=>hN _ ?_
 walk_at "w"
 walk_at "n";refine zP (fun ρ=>∃ (R:List Int) (ca:Tb) (p:Nat) (t7 t8:#[44]),ρ = [#[5,start],some #[37],some (.dm a2 t),some (.dm a3 h),some (.ow true (R.map .int)),some (.dm ac ca),#[5,(p:Int)],t7,t8]/\Rea Ed start t h ca R A' B'/\(∀ x∈R,∀ c∈ch.getD x.toNat [],(getM ca c).isSome=true)) (fun N hN=>?_) ?_
 . walk_at "rd"
   refine⟨_,JP (fun k ρ=>∃ (R:List Int) (ca:Tb) (p:Nat) (t7 t8:#[44]),ρ = [#[5,start],some #[37],some (.dm a2 t),some (.dm a3 h),some (.ow true (R.map .int)),some (.dm ac ca),#[5,(p:Int)],t7,t8]/\Rea Ed start t h ca R A' B'/\(∀ x∈R.take p,∀ c∈ch.getD x.toNat [],(getM ca c).isSome=true)/\p<=R.length/\k=A' - p) ?_ _ _ ⟨[start],[],0,_,_,rfl,Rea.start hst,fun x hx=>(by cases hx),WbF _,rfl⟩⟩
   rintro k ρ ⟨R,ca,p,t7,t8,rfl,hR,hdn,hp,rfl⟩ W hW
   have hRA:=ZN hR.nd hR.inn;refine zb5 fun Y N' hY hN'=>?_
   walk_at "rd YaR"
   refine ite2 (fun hlt=>hY ?_) fun hge=>hN' (hN _ ⟨R,ca,p,t7,t8,rfl,hR,by rw [Wat #[0]] at hdn;exact hdn⟩)
   clear hY hN' Y N';have hlt:p<R.length:=#[0]
   have hsk:atI (R.map PyData.int) (p:Int)=some (PyData.int (R[p]'hlt)):=jt (by rw [Ya0,YaQ hlt];rfl)
   have hsR:R[p]'hlt∈R:=Ya4 _;have hpR:R[p]?=some (R[p]'hlt):=YaQ hlt;generalize R[p]'hlt=s at hsk hsR hpR;refine zf fun N1 hN1=>?_
   walk_at "rd hsk"
   refine hN1 _ ?_
   clear hN1 N1;obtain⟨r1,r2⟩:=za9 (L:=ch) (d:=[]) (hch ▸ hR.inn s hsR);have r1':atI (ch.map dI) s=some (.list ((ch.getD s.toNat []).map .int)):=by rw [Zd,r1];rfl
   have r3:=hrow _ r2;have hes:∀ c,c∈ch.getD s.toNat []->Ed s c:=fun c hc=>by rw [<-hEd];exact hc
   generalize hrw:ch.getD s.toNat []=row at r1' r3 hes;refine zP (fun ρ=>∃ (R:List Int) (ca:Tb) (t8:#[44]),ρ = [#[5,start],some #[37],some (.dm a2 t),some (.dm a3 h),some (.ow true (R.map .int)),some (.dm ac ca),#[5,(p:Int)],#[5,s],t8]/\Rea Ed start t h ca R A' B'/\(∀ x∈R.take p,∀ c∈ch.getD x.toNat [],(getM ca c).isSome=true)/\R[p]?=some s/\∀ c∈row,(getM ca c).isSome=true) (fun N1 hN1=>?_) ?_
   . walk_at "rd r1'"
     refine je PyData.int row (fun done ρ=>∃ (R:List Int) (ca:Tb) (t8:#[44]),ρ = [#[5,start],some #[37],some (.dm a2 t),some (.dm a3 h),some (.ow true (R.map .int)),some (.dm ac ca),#[5,(p:Int)],#[5,s],t8]/\Rea Ed start t h ca R A' B'/\(∀ x∈R.take p,∀ c∈ch.getD x.toNat [],(getM ca c).isSome=true)/\R[p]?=some s/\∀ c∈done,(getM ca c).isSome=true) ?_ (fun ρ h=>hN1 ρ h) ⟨R,ca,_,rfl,hR,hdn,hpR,fun c hc=>(by cases hc)⟩
     clear hR hRA hp hlt hsk hsR hdn hpR
     rintro done x rest ρ hd ⟨R,ca,t8,rfl,hR,hdn,hpR,hdo⟩ V hV
     have hsR:s∈R:=Yah hpR;have hlt:p<R.length:=(Ya8.mp hpR).1;have hex:Ed s x:=hes x (by rw [hd];simp)
     have hx:InR x B':=r3 x (by rw [hd];simp)
     have hRA:=ZN hR.nd hR.inn;have hcl:=hR.oc.len;simp only [gn3,List.set_cons_zero,List.set_cons_succ,zq,WbE];refine jJ fun Y N' hY hN'=>?_
     walk_at "rd"
     refine ite2 (fun hn=>hY ?_) fun hn=>hN' (by walk_at "rd";exact hV _ ⟨R,ca,_,rfl,hR,hdn,hpR,zjK hdo hn⟩)
     clear hY hN' Y N';have hn:getM ca x=none:=by cases e:getM ca x with|none=>rfl|some _=>rw [e] at hn;cases hn
     refine zf fun N2 hN2=>?_
     walk_at "rd"
     refine⟨YaU (show _<1000000 by omega) #[1],hN2 _ ?_⟩
     clear hN2 N2;refine zf fun N2 hN2=>?_
     refine jJ fun Y N' hY hN'=>?_
     walk_at "rd"
     refine ite2 (fun hf=>hY ?_) fun hf=>hN' ?_
     . clear hY hN' Y N' hN2
       have hf:getM h x=none:=by cases e:getM h x with|none=>rfl|some _=>rw [e] at hf;cases hf
       have hway:=hR.seen h0 hsR hex hx hn;refine zf fun N3 hN3=>?_
       walk_at "rd"
       refine⟨fun y=>R.idxOf y,start,A',B',R.idxOf s,Ed,hway,⟨hte,hm.free hf,ht,hh,⟨s,by rw [zU,if_pos rfl],rfl⟩,fun _ _=>rfl,fun _=>Iff.rfl,fun _ z=>z⟩,hA,hB,fun t' h' hmv=>hN3 _ ?_⟩
       walk_at "rd"
       exact q1 t' h' hmv
     . have hf:∃ y,getM h x=some y:=by cases e:getM h x with|none=>rw [e] at hf;exact absurd rfl hf|some y=>exact⟨y,rfl⟩
       obtain⟨y,hy⟩:=hf
       walk_at "rd"
       refine hN2 _ ?_
       clear hY hN' Y N' hN2 N2
       walk_at "rd hy YaR"
       refine⟨YaU (show _<1000000 by omega) #[1],hV _ ⟨R++[y],putM ca x s,_,by rw [Ya2];rfl,hR.more hm h0 hsR hex hx hn hy hh,fun z hz c hc=>?_,by rw [Yab hlt];exact hpR,fun c hc=>?_⟩⟩
       . rw [List.take_append_of_le_length #[0]] at hz
         exact zfy (hdn z hz c hc)
       . rcases Ya3.mp hc with z|z
         . exact zfy (hdo c z)
         . rw [Ya6.mp z,zU,if_pos rfl];rfl
   rintro ρ ⟨R',ca',t8',rfl,hR',hdn',hpR',hdo'⟩
   have hRA':=ZN hR'.nd hR'.inn;have hlt':p<R'.length:=(Ya8.mp hpR').1
   walk_at "rd"
   refine hW (A' - (p+1)) _ #[0] ⟨R',ca',p+1,_,_,rfl,hR',fun x hx c hc=>?_,#[0],rfl⟩
   rw [WaW,hpR'] at hx
   rcases Ya3.mp hx with z|z
   . exact hdn' x z c hc
   . have z:x=s:=Ya6.mp z
     rw [z,hrw] at hc;exact hdo' c hc
 rintro ρ ⟨R,ca,p,t7,t8,rfl,hR,hall⟩
 have hRA:=ZN hR.nd hR.inn;have hcl:=hR.oc.len;have hln:=hR.len
 walk_at "rd"
 refine⟨R,rfl,#[0],fun ms p hpw=>?_⟩
 have hml:=p.length_eq;refine q2 ms (p.nodup_iff.mpr hR.nd) hpw #[0] (fun x hx=>⟨hR.inn x (p.mem_iff.mp hx),hR.seeks x (p.mem_iff.mp hx)⟩) (p.mem_iff.mpr (Yah hR.hd)) ⟨ca.map (·.1),by rw [YaR];omega,fun x hx c hc=>zkh (hall x (p.mem_iff.mp hx) c hc)⟩
theorem zlA(T:#[53]):dd_place_visits P w K mg base:=by
 have znR:dd_choices_of_visits P w K mg base:=zjV T;have zol:dd_settle P w K mg base:=zgO T;obtain⟨f,fd,F,hm⟩:=T.d_place_visits;have S:FnScope ["visits", "choices", "turn_of_visit", "visit_of_turn", "turns_for", "place", "visit", "stuck", "turn"] ["visits", "choices"] (zh Z7):=#[10]
 refine⟨fun ds Q Q' E E' hQ hE h=>?_,⟨f,fd,fn3 F S (fun ds Q E h=>?_) (fun cdv A outer s H E E3 hE hr=>?_),F.binds fun _ _ _ _ _ _ us hl=>by obtain⟨_,_,rfl⟩:=z8 hl;rfl,F.kp,hm⟩⟩
 . obtain⟨a,b,e,x1,x2,x3,h1⟩:=h;exact⟨a,b,e,x1,x2,x3,fun u v=>hQ _ _ (h1 u v)⟩
 . walk_at "l"
 refine⟨_,(zc #[9,zce,2]
  (zc #[9,zce,3]
  (zc (#[9,zi,4] (df3 hE znR #[7] rfl zo (za (n3 0) #[50])))
  (zc (zC WaZ rfl (zbj rfl T.n_enumerate (za (n3 0) zb)) (zW (n:=2) rfl (zy #[9,zg,5] (zy #[9,zg,6] zV))) (ze (s_if (zm Jr (at3 (n3 6) i3 #[4]) non3 #[25]) (zc (zct (i:=7) [2,3] #[1] S.nd rfl #[2] zol #[7] rfl zo (za (n3 5) (za (n3 4) (za (n3 2) (za (n3 3) zb)))))
   (ze (s_if (zm jN (zw zD rfl T.n_len zE (za (n3 7) zb)) i3 #[25]) (ze (zp (zR (za s3 (za (new3 (zY ["other"] ["visits"] [0] rfl (zQ (osc:=zh Z7) #[3]) rfl (zH (n3 7)) (fun H0 s H fp cl=>⟨(zg (i:=0) (show((["other"]:List PySem.Str)++(["visits"]:List PySem.Str)).Nodup by decide) rfl #[2]),z6,(zR (za (at3 (at3 (n3 1) (n3 0) #[4]) i3 #[4]) (za (at3 (at3 (n3 1) (n3 0) #[4]) i3 #[4]) zb)))⟩))) zb))))) zu))) zu)))
  (zc (zC WaZ rfl (jh rfl T.n_range (za (zw zD rfl T.n_len zE #[50]) zb)) #[9,zg,8] (ze (s_if (zcC (i:=3) (jK hr) rfl #[2] (n3 8)) (zc (zct (i:=7) [3,2] #[1] S.nd rfl #[2] zol #[7] rfl zo (za (n3 8) (za (n3 1) (za (n3 3) (za (n3 2) zb)))))
   (ze (s_if (zm jN (zw zD rfl T.n_len zE (za (n3 7) zb)) i3 #[25]) (ze (zp (zR (za s3 (za (new3 (zY ["other"] [] [] rfl (zQ (osc:=zh Z7) #[3]) rfl (zH (n3 7)) (fun H0 s H fp cl=>⟨(zg (i:=0) (show((["other"]:List PySem.Str)++([]:List PySem.Str)).Nodup by decide) rfl #[2]),z6,(op3 zF (n3 0) i3)⟩))) zb))))) zu))) zu)))
  (ze (zp (zR (za s3 (za (new3 (zY ["turn"] ["visits", "visit_of_turn"] [0,3] rfl (zQ (osc:=zh Z7) #[3]) rfl (jh rfl T.n_range (za (zw zD rfl T.n_len zE #[50]) zb)) (fun H0 s H fp cl=>⟨(zg (i:=0) (show((["turn"]:List PySem.Str)++(["visits", "visit_of_turn"]:List PySem.Str)).Nodup by decide) rfl #[2]),z6,(at3 (at3 (n3 1) (zbJ (i:=2) (jK hr) rfl #[2] (n3 0)) #[4]) i3 #[4])⟩))) zb)))))))))),fun ds Q h=>?_⟩
 obtain⟨V,ch,rfl,hV,hT,hrow,q⟩:=h;walk_at "q"
 refine fun a2=>hN _ ?_
 walk_at "w"
 refine fun a3=>hN _ ?_
 walk_at "w"
 refine⟨V,rfl,ch,rfl,hV,hT,hrow,fun tv hvl htv htc=>hN _ ?_⟩
 clear hN N;refine zP (fun ρ=>∃ (t h:Tb) (t5 t6 t7:#[44]),ρ = [some #[24],some #[37],some (.dm a2 t),some (.dm a3 h),some (.sh true (.list (tv.map dI))),t5,t6,t7,none]/\Mat t h/\TbOk t V.length ch.length/\TbOk h ch.length V.length/\(∀ s c,getM t s=some c->c∈tv.getD s.toNat [])/\∀ i,i<V.length->(V.getD i z4).2.2.2≠none->(getM t (i:Int)).isSome=true) (fun N hN=>?_) ?_
 . walk_at "rd"
   rw [zdE];refine zck (fun k ρ=>∃ (t h:Tb) (t5 t6 t7:#[44]),ρ = [some #[24],some #[37],some (.dm a2 t),some (.dm a3 h),some (.sh true (.list (tv.map dI))),t5,t6,t7,none]/\Mat t h/\TbOk t V.length ch.length/\TbOk h ch.length V.length/\(∀ s,(getM t s).isSome=true->s<(k:Int)/\(V.getD s.toNat z4).2.2.2≠none)/\(∀ s c,getM t s=some c->c∈tv.getD s.toNat [])/\∀ i,i<k->(V.getD i z4).2.2.2≠none->(getM t (i:Int)).isSome=true) ?_ (fun ρ ⟨t,h,t5,t6,t7,e,h1,h2,h3,_,h4,h5⟩=>hN ρ ⟨t,h,t5,t6,t7,e,h1,h2,h3,h4,h5⟩) ⟨[],[],none,none,none,rfl,fun s c=>⟨fun z=>(by cases z),fun z=>(by cases z)⟩,TbOk.nil _ _,TbOk.nil _ _,fun s z=>(by cases z),fun s c z=>(by cases z),fun i hi=>absurd hi (Wbe _)⟩
   rintro k ρ hk ⟨t,h,t5,t6,t7,rfl,hm,ht,hh,hd,hte,hdu⟩ W hW
   have hvk:V.getD k z4=V.getD k #[59]:=rfl;generalize V.getD k #[59]=v at hvk;obtain⟨vc,vj,vo,vl⟩:=v;have h0:getM t (k:Int)=none:=by
    cases e:getM t (k:Int) with
    | none=>rfl
    | some y=>have:=(hd (k:Int) (by rw [e];rfl)).1;omega
   have up:∀ s,(getM t s).isSome=true->s<((k+1:Nat):Int)/\(V.getD s.toNat z4).2.2.2≠none:=fun s z=>⟨by have:=(hd s z).1;omega,(hd s z).2⟩
   refine zje fun N1 hN1=>?_
   walk_at "rd"
   refine hN1 _ ?_
   clear hN1 N1;refine jJ fun Y N' hY hN'=>?_
   have no:vl=none->N':=fun hvl0=>hN' (by
    walk_at "rd"
    refine hW _ ⟨t,h,_,_,_,rfl,hm,ht,hh,up,hte,fun i hi hdi=>?_⟩
    by_cases e:i=k
    . rw [e,hvk,hvl0] at hdi;exact absurd rfl hdi
    . exact hdu i #[0] hdi)
   have yes:vl≠none->Y:=fun hvl0=>by
    have hkd:(V.getD k z4).2.2.2≠none:=by rw [hvk];exact hvl0
    refine hY ?_
    clear hY hN' no;refine zf fun N1 hN1=>?_
    walk_at "rd"
    rw [<-hvl] at ht hh;refine⟨tv,rfl,#[0],ch.length,#[0],.inr #[0],⟨#[0],#[0]⟩,htv,hm,ht,hh,h0,hte,fun t' h' hmv=>hN1 _ ?_,fun rs hnd hpw h64 hrs hst hC=>hN1 _ ?_⟩
    . clear hN1 N1
      walk_at "rd"
      rw [if_neg #[1]]
      refine hW _ ⟨t',h',_,_,_,rfl,hmv.mat,hvl ▸ hmv.ot,hvl ▸ hmv.oh,fun s z=>?_,hmv.ed,fun i hi hdi=>(hmv.dt _).mpr ?_⟩
      . rcases(hmv.dt s).mp z with y|y
        . exact up s y
        . rw [y,Int.toNat_natCast];exact⟨#[0],hkd⟩
      . by_cases e:i=k
        . exact .inr (by rw [e])
        . exact .inl (hdu i #[0] hdi)
    . clear hN1 N1
      have hz:0<rs.length:=YaO hst
      walk_at "rd YaR"
      rw [if_pos #[0]]
      refine⟨sz #[0],?_⟩
      obtain⟨C,hC1,hC2⟩:=hC;refine z5 PyData.int (fun x=>.tuple [.int (V.getD x.toNat #[59]).1,.int (V.getD x.toNat #[59]).2.1]) (fun ρ=>∃ t,ρ = [t,some #[24]]) rs ?_ _ _ _ _ ⟨none,rfl⟩ (q _ (.inr (.inl ⟨rs,hnd,hpw,⟨fun z=>(by rw [z] at hz;simp at hz),h64⟩,fun x hx=>⟨hvl ▸ (hrs x hx).1,?_⟩,⟨C,hC1,fun x hx j hj hm=>hC2 x hx _ ?_⟩,rfl⟩)))
      rotate_left
      . rcases(hrs x hx).2 with y|y
        . rw [y,Int.toNat_natCast];exact hkd
        . exact(hd x y).2
      . have hxr:=(hrs x hx).1
        exact(htc x.toNat (by have:=hxr.1;have:=hxr.2;omega) j hj).mpr hm
      rintro x hx ρ fa acc K ⟨t,rfl⟩ kk
      have hat:atI (V.map dW) x=some (dW (V.getD x.toNat #[59])):=by rw [Zd,(za9 (d:=#[59]) (hvl ▸ (hrs x hx).1)).1];rfl
      walk_at "rd hat"
      exact kk _ ⟨_,rfl⟩
   clear hY hN';cases vl with
   | none=>walk_at "rd dO";exact no rfl
   | some e=>walk_at "rd dO";exact yes (by nofun)
 rintro ρ ⟨t,h,t5,t6,t7,rfl,hm,ht,hh,hte,hdu⟩
 refine zP (fun ρ=>∃ (t h:Tb) (t5 t6 t7 t8:#[44]),ρ = [some #[24],some #[37],some (.dm a2 t),some (.dm a3 h),some (.sh true (.list (tv.map dI))),t5,t6,t7,t8]/\Mat t h/\TbOk h ch.length V.length/\(∀ s c,getM h s=some c->c∈ch.getD s.toNat [])/\(∀ i,i<V.length->(V.getD i z4).2.2.2≠none->(getM t (i:Int)).isSome=true)/\∀ k:Int,0<=k->k<(ch.length:Int)->(getM h k).isSome=true) (fun N hN=>?_) ?_
 . have hhe:∀ s c,getM h s=some c->c∈ch.getD s.toNat []:=fun s c e=>by
    have h1:=hte c s ((hm c s).mpr e);obtain⟨⟨i1,i2⟩,j1,j2⟩:=hh.get e;have:=(htc c.toNat #[0] s.toNat #[0]).mp (by rw [show((s.toNat:Nat):Int)=s by omega];exact h1)
    rwa [show((c.toNat:Nat):Int)=c by omega] at this
   walk_at "rd YaR"
   refine⟨#[0],#[0],?_⟩
   rw [Int.toNat_natCast];refine jf (fun k ρ=>∃ (t h:Tb) (t5 t6 t7 t8:#[44]),ρ = [some #[24],some #[37],some (.dm a2 t),some (.dm a3 h),some (.sh true (.list (tv.map dI))),t5,t6,t7,t8]/\Mat t h/\TbOk t V.length ch.length/\TbOk h ch.length V.length/\(∀ s c,getM h s=some c->c∈ch.getD s.toNat [])/\(∀ i,i<V.length->(V.getD i z4).2.2.2≠none->(getM t (i:Int)).isSome=true)/\∀ i:Int,0<=i->i<(k:Int)->(getM h i).isSome=true) ?_ (fun ρ ⟨t,h,t5,t6,t7,t8,e,h1,h2,h3,h4,h5,h6⟩=>hN ρ ⟨t,h,t5,t6,t7,t8,e,h1,h3,h4,h5,h6⟩) ⟨t,h,_,_,_,_,rfl,hm,ht,hh,hhe,hdu,fun i h0 h1=>absurd h1 #[0]⟩
   clear hm ht hh hte hdu hhe t h t5 t6 t7
   rintro k ρ hk ⟨t,h,t5,t6,t7,t8,rfl,hm,ht,hh,hhe,hdu,hd⟩ W hW
   simp only [gn3,List.set_cons_zero,List.set_cons_succ,zq,WbE];refine jJ fun Y N' hY hN'=>?_
   walk_at "rd"
   refine ite2 (fun hn=>hY ?_) fun hn=>hN' ?_
   . have h0:getM h (0+(k:Int))=none:=by cases e:getM h (0+(k:Int)) with|none=>rfl|some _=>rw [e] at hn;cases hn
     refine zf fun N1 hN1=>?_
     walk_at "rd"
     refine⟨ch,rfl,#[0],V.length,#[0],.inl #[0],⟨#[0],#[0]⟩,fun row hr=>(hrow row hr).2,hm.symm,hh,ht,h0,hhe,fun h' t' hmv=>hN1 _ ?_,fun rs hnd hpw h64 hrs hst hC=>hN1 _ ?_⟩
     . clear hN1 N1
       walk_at "rd"
       rw [if_neg #[1]]
       refine hW _ ⟨t',h',_,_,_,_,rfl,hmv.mat.symm,hmv.oh,hmv.ot,hmv.ed,fun i hi hdi=>hmv.dh _ (hdu i hi hdi),fun i i0 i1=>(hmv.dt i).mpr ?_⟩
       by_cases e:i=(k:Int)
       . exact .inr #[0]
       . exact .inl (hd i i0 #[0])
     . clear hN1 N1
       have hz:0<rs.length:=YaO hst
       walk_at "rd YaR"
       rw [if_pos #[0]]
       refine⟨sz #[0],?_⟩
       obtain⟨C,hC1,hC2⟩:=hC;refine z5 PyData.int (fun x=>.int (x+1)) (fun ρ=>∃ t,ρ = [t]) rs ?_ _ _ _ _ ⟨none,rfl⟩ (q _ (.inr (.inr ⟨rs,hnd,hpw,⟨fun z=>(by rw [z] at hz;simp at hz),h64⟩,fun x hx=>(hrs x hx).1,⟨C,hC1,fun x hx i hi hm=>hC2 x hx _ hm⟩,rfl⟩)))
       rintro x hx ρ fa acc K ⟨t,rfl⟩ kk
       walk_at "rd"
       exact kk _ ⟨_,rfl⟩
   . walk_at "rd"
     refine hW _ ⟨t,h,_,_,_,_,rfl,hm,ht,hh,hhe,hdu,fun i i0 i1=>?_⟩
     by_cases e:i=(k:Int)
     . rw [e]
       rw [WbC] at hn;cases z:getM h (k:Int) with|none=>rw [z] at hn;exact absurd rfl hn|some _=>rfl
     . exact hd i i0 #[0]
 clear hm ht hh hte hdu t h t5 t6 t7
 rintro ρ ⟨t,h,t5,t6,t7,t8,rfl,hm,hh,hhe,hdu,hd⟩
 walk_at "rd YaR"
 rw [Int.toNat_natCast];refine⟨#[0],#[0],sz (by rw [J1];omega),?_⟩
 refine z5 (fun i:Nat=>PyData.int (0+(i:Nat))) (fun i:Nat=>.int (V.getD ((getM h (0+(i:Int))).getD 0).toNat #[59]).1) (fun ρ=>∃ t,ρ = [t,some #[24],some (.dm a3 h)]) (List.range ch.length) ?_ _ _ _ _ ⟨none,rfl⟩ (q _ (.inl ⟨fun k=>((getM h (0+(k:Int))).getD 0).toNat,zkH hm hh hhe hdu hd⟩))
 rintro i hi ρ fa acc K ⟨t,rfl⟩ kk
 have hi:=Yba.mp hi;obtain⟨y,hy⟩:=Wam.mp (hd (0+(i:Int)) #[0] #[0])
 rw [hy] at kk;have hat:atI (V.map dW) y=some (dW (V.getD y.toNat #[59])):=by rw [Zd,(za9 (d:=#[59]) (hh.get hy).2).1];rfl
 walk_at "rd hy hat"
 exact kk _ ⟨_,rfl⟩
theorem zli(T:#[53]):dd_less P w K mg base:=by
 obtain⟨f,fd,F,hm⟩:=T.d_less;have S:FnScope ["one", "other"] ["one", "other"] (zh zgG):=#[10]
 refine⟨fun ds Q Q' E E' hQ hE h=>?_,⟨f,fd,fn3 F S (fun ds Q E h=>?_) (fun cdv A outer s H E E3 hE hr=>?_),F.binds fun _ _ _ _ _ _ us hl=>by obtain⟨_,_,rfl⟩:=z8 hl;rfl,F.kp,hm⟩⟩
 . obtain⟨a,b,e,x,y,h⟩:=h;exact⟨a,b,e,x,y,hQ _ _ h⟩
 . walk_at "l"
 refine⟨_,(ze (zp (cmp3 jw (op3 zN (at3 (n3 0) i3 #[4]) (at3 (n3 1) i3 #[4])) (op3 zN (at3 (n3 1) i3 #[4]) (at3 (n3 0) i3 #[4])) #[25]))),fun ds Q h=>?_⟩
 obtain⟨a,b,rfl,ha,hb,q⟩:=h
 walk_at "rd atI0 atI1"
 exact⟨ha.2.1.mulOk hb.2.2 #[1],hb.2.1.mulOk ha.2.2 #[1],q⟩
theorem zky(T:#[53]):dd_check_bounds c P w K mg base:=by
 have zod:dd_less P w K mg base:=zli T;obtain⟨f,fd,F,hm⟩:=T.d_check_bounds;have S:FnScope ["bounds", "clans", "below", "above", "bound"] ["bounds", "clans"] (zh zeo):=#[10]
 refine⟨fun ds Q Q' E E' hQ hE h=>?_,⟨f,fd,fn3 F S (fun ds Q E h=>?_) (fun cdv A outer s H E E3 hE hr=>?_),F.binds fun _ _ _ _ _ _ us hl=>by obtain⟨_,_,rfl⟩:=z8 hl;rfl,F.kp,hm⟩⟩
 . obtain⟨a,b,e,x,h1,h2⟩:=h;exact⟨a,b,e,x,fun z=>hQ _ _ (h1 z),fun z=>hE _ (h2 z)⟩
 . walk_at "l"
 refine⟨_,(zc (s_if (zm (jX hr.units) #[34] (n3 1) #[25]) (ze (ju hE jz rfl rfl T.m_NoBounds T.e_NoBounds (za s3 zb))) zu)
  (ze (zC WaZ rfl (zH (n3 0)) (zW (n:=2) rfl (zy #[9,zg,2] (zy #[9,zg,3] zV))) (ze (zC WaZ rfl (ziA (zR (za (n3 2) (za (n3 3) zb)))) #[9,zg,4] (ze (s_if (pw3 (jc (val3 (df3 hE zod #[7] rfl zo (za (n3 4) (za (g3t rfl T.m_LEAST_BOUND) zb)))) (jA (val3 (df3 hE zod #[7] rfl zo (za (g3t rfl T.m_MOST_BOUND) (za (n3 4) zb))))))) (ze (ju hE jz rfl rfl T.m_NoBounds T.e_NoBounds (za s3 zb))) zu))))))),fun ds Q h=>?_⟩
 obtain⟨l,n,rfl,hq,q,hE'⟩:=h
 walk_at "rd"
 rw [YaR]
 by_cases h1:(l.length:Int)=n
 case neg=>rw [if_pos h1];exact hE' fun z=>h1 (by rw [z.1])
 rw [if_neg (fun z=>z h1)]
 refine je dP l (fun done ρ=>∃ t u v,ρ = [some (.sh false (.list (l.map dP))),#[5,n],t,u,v]/\∀ p∈done,inQ p.1/\inQ p.2) ?_ ?_ ⟨none,none,none,rfl,fun x h=>by cases h⟩
 . rintro done x rest ρ hd ⟨t,u,v,rfl,hall⟩ W hW
   have hx:x∈l:=by rw [hd];simp
   obtain⟨hx1,hx2⟩:=hq x hx
   walk_at "rd"
   refine je dQ [x.1,x.2] (fun done' ρ=>∃ v,ρ = [some (.sh false (.list (l.map dP))),#[5,n],some (.sh false (dQ x.1)),some (.sh false (dQ x.2)),v]/\∀ r∈done',inQ r) ?_ ?_ ⟨_,rfl,fun x h=>by cases h⟩
   . rintro done' r rest' ρ hd' ⟨v,rfl,hall'⟩ W' hW'
     have hr:okQ r:=by
      have:r∈[x.1,x.2]:=by rw [hd'];simp
      rcases Wbm.mp this with z|z
      . rw [z];exact hx1
      . rw [Ya6.mp z];exact hx2
     have hrb:inQ r\/¬okB n l:=by
      by_cases z:inQ r
      . exact .inl z
      . right
        intro y;have:r∈[x.1,x.2]:=by rw [hd'];simp
        rcases Wbm.mp this with w|w
        . rw [w] at z;exact z (y.2 x hx).1
        . rw [Ya6.mp w] at z;exact z (y.2 x hx).2
     have o01:okQ (0,1):=⟨#[1],Bits.lit (x:=0) 1200,Bits.lit (x:=1) 1200⟩
     have o10:okQ (10,1):=⟨#[1],Bits.lit (x:=10) 1200,Bits.lit (x:=1) 1200⟩
     walk_at "rd"
     refine⟨r,rfl,rfl,(0,1),rfl,rfl,hr,o01,ite2 (fun h=>hE' (hrb.elim (fun z=>absurd h (by have:=z.1;show ¬r.1*1<0*r.2;omega)) id)) fun h=>⟨(10,1),rfl,rfl,r,rfl,rfl,o10,hr,ite2 (fun h2=>hE' (hrb.elim (fun z=>absurd h2 (by have:=z.2;show ¬10*r.2<r.1*1;omega)) id)) fun h2=>hW' _ ⟨_,rfl,fun y hy=>?_⟩⟩⟩
     rcases Ya3.mp hy with z|z
     . exact hall' y z
     . rw [Ya6.mp z]
       have e1:¬r.1*1<0*r.2:=h;have e2:¬10*r.2<r.1*1:=h2;exact⟨#[0],#[0]⟩
   . rintro ρ ⟨v,rfl,hall'⟩
     exact hW _ ⟨_,_,_,rfl,fun p hp=>by
      rcases Ya3.mp hp with z|z
      . exact hall p z
      . rw [Ya6.mp z];exact⟨hall' _ (by simp),hall' _ (by simp)⟩⟩
 . rintro ρ ⟨t,u,v,rfl,hall⟩
   exact q ⟨#[0],hall⟩
theorem zh6(T:#[53]):dd_room_at_most P w K mg base:=by
 obtain⟨f,fd,F,hm⟩:=T.d_room_at_most;have S:FnScope ["bottom", "bound"] ["bottom", "bound"] (zh zdm):=#[10]
 refine⟨fun ds Q Q' E E' hQ hE h=>?_,⟨f,fd,fn3 F S (fun ds Q E h=>?_) (fun cdv A outer s H E E3 hE hr=>?_),F.binds fun _ _ _ _ _ _ us hl=>by obtain⟨_,_,rfl⟩:=z8 hl;rfl,F.kp,hm⟩⟩
 . obtain⟨a,b,e,x,y,h⟩:=h;exact⟨a,b,e,x,y,hQ _ _ h⟩
 . walk_at "l"
 refine⟨_,(ze (zp (op3 zM (op3 zN (at3 (n3 1) i3 #[4]) (n3 0)) (at3 (n3 1) i3 #[4])))),fun ds Q h=>?_⟩
 obtain⟨b,r,rfl,hb,hr,q⟩:=h
 walk_at "rd atI0 atI1"
 exact⟨hr.2.1.mulOk hb #[1],⟨hr.1,hr.2.2.mono #[1]⟩,q⟩
theorem zkl(T:#[53]):dd_rooms_of c P w K mg base:=by
 have znL:dd_check_bounds c P w K mg base:=zky T;have zoj:dd_room_at_most P w K mg base:=zh6 T;obtain⟨f,fd,F,hm⟩:=T.d_rooms_of;have S:FnScope ["told", "bounds", "bottom"] ["told", "bounds"] (zh zci):=#[10]
 refine⟨fun ds Q Q' E E' hQ hE h=>?_,⟨f,fd,fn3 F S (fun ds Q E h=>?_) (fun cdv A outer s H E E3 hE hr=>?_),F.binds fun _ _ _ _ _ _ us hl=>by obtain⟨_,_,rfl⟩:=z8 hl;rfl,F.kp,hm⟩⟩
 . obtain⟨a,b,d,n,e,x1,x2,x3,x4,x5,x6,h1,h2⟩:=h;exact⟨a,b,d,n,e,x1,x2,x3,x4,x5,x6,fun z=>hQ _ _ (h1 z),fun z=>hE _ (h2 z)⟩
 . walk_at "l"
 refine⟨_,(zc (#[9,zi,2] (at3 (n3 0) i3 #[4]))
  (zc (Zz (df3 hE znL #[7] rfl zo (za (n3 1) (za (zw zD rfl T.n_len zE (za (at3 (at3 (n3 0) i3 #[4]) i3 #[4]) zb)) zb))))
  (ze (zp (new3 (zY ["below", "above"] ["bottom"] [2] rfl (zQ (osc:=zh zci) #[3]) rfl (zH (n3 1)) (fun H0 s H fp cl=>⟨(zW (n:=2) rfl (zy (zg (i:=0) (show((["below", "above"]:List PySem.Str)++(["bottom"]:List PySem.Str)).Nodup by decide) rfl #[2]) (zy (zg (i:=1) (show((["below", "above"]:List PySem.Str)++(["bottom"]:List PySem.Str)).Nodup by decide) rfl #[2]) zV))),z6,(zR (za (df3 (E:=fun _ _ _=>False) (E3:=fun _=>False) (fun _ _ z _=>z) zoj #[7] rfl JL (za (n3 2) (za (n3 0) zb))) (za (df3 (E:=fun _ _ _=>False) (E3:=fun _=>False) (fun _ _ z _=>z) zoj #[7] rfl JL (za (n3 2) #[50])) zb)))⟩))))))),fun ds Q h=>?_⟩
 obtain⟨b,qs,l,n,rfl,hb,hq1,hqn,hn8,hl,hq,q,hE'⟩:=h;have hd0:atI (qs.map dI) 0=some (PyData.list (qs[0].map PyData.int)):=zbE (i:=0) #[0]
 have h0n:=hqn qs[0] (Ya4 #[0])
 walk_at "s"
 walk_at "rd atI0"
 walk_at "u"
 walk_at "rd atI1 hd0 YaR h0n"
 refine⟨l,rfl,n,rfl,hq,fun hok=>hN _ ?_,hE'⟩
 clear hN N
 walk_at "rd YaR"
 refine⟨sz #[0],?_⟩
 refine z5 dP (fun p=>jL (zr b p.1,zr b p.2)) (fun ρ=>∃ t u,ρ = [t,u,#[5,b]]) l ?_ _ _ _ _ ⟨none,none,rfl⟩ ?_
 . rintro p hp ρ fa acc K ⟨t,u,rfl⟩ kk
   obtain⟨hp1,hp2⟩:=hq p hp
   walk_at "rd"
   exact⟨p.1,rfl,rfl,hb,hp1,p.2,rfl,rfl,hb,hp2,kk _ ⟨_,_,rfl⟩⟩
 . have:=q hok
   unfold zx at this;rw [YaD] at this;exact this
theorem znh(T:#[53]):dd_check_turn c P w K mg base:=by
 obtain⟨f,fd,F,hm⟩:=T.d_check_turn;have S:FnScope ["turn", "turns"] ["turn", "turns"] (zh zdt):=#[10]
 refine⟨fun ds Q Q' E E' hQ hE h=>?_,⟨f,fd,fn3 F S (fun ds Q E h=>?_) (fun cdv A outer s H E E3 hE hr=>?_),F.binds fun _ _ _ _ _ _ us hl=>by obtain⟨_,_,rfl⟩:=z8 hl;rfl,F.kp,hm⟩⟩
 . obtain⟨a,b,e,h1,h2⟩:=h;exact⟨a,b,e,fun z=>hQ _ _ (h1 z),fun z=>hE _ (h2 z)⟩
 . walk_at "l"
 refine⟨_,(ze (s_if (jp (JM jD jD i3 (n3 0) (n3 1))) (ze (ju hE jz rfl rfl T.m_NoRule T.e_NoRule (za s3 zb))) zu)),fun ds Q h=>?_⟩
 obtain⟨t,T',rfl,q,hE'⟩:=h
 walk_at "rd"
 by_cases h1:1<=t
 . rw [if_pos h1]
   exact ite2 (fun z=>hE' fun y=>z y.2) fun z=>q ⟨h1,Decidable.not_not.mp z⟩
 . rw [if_neg h1]
   exact hE' fun y=>h1 y.1
theorem zgX(T:#[53]):dd_check_rules c P w K mg base:=by
 have znO:dd_check_turn c P w K mg base:=znh T;obtain⟨f,fd,F,hm⟩:=T.d_check_rules;have S:FnScope ["rules", "turns", "clans", "word", "turn", "clan"] ["rules", "turns", "clans"] (zh zfc):=#[10]
 refine⟨fun ds Q Q' E E' hQ hE h=>?_,⟨f,fd,fn3 F S (fun ds Q E h=>?_) (fun cdv A outer s H E E3 hE hr=>?_),F.binds fun _ _ _ _ _ _ us hl=>by obtain⟨_,_,_,rfl⟩:=jS hl;rfl,F.kp,hm⟩⟩
 . obtain⟨a,b,d,e,x,h1,h2⟩:=h;exact⟨a,b,d,e,x,fun z=>hQ _ _ (h1 z),fun z=>hE _ (h2 z)⟩
 . walk_at "l"
 refine⟨_,(ze (zC WaZ rfl (zH (n3 0)) (zW (n:=3) rfl (zy #[9,zg,3] (zy #[9,zg,4] (zy #[9,zg,5] zV)))) (zc (s_if (zm (zni (hu65 hr)) (n3 3) (zR (za (g3s rfl T.m_FIXED) (za (g3s rfl T.m_BARRED) zb))) (by with_unfolding_all rfl)) (ze (ju hE jz rfl rfl T.m_NoRule T.e_NoRule (za s3 zb))) zu)
  (zc (Zz (df3 hE znO #[7] rfl zo (za (n3 4) #[50])))
  (ze (s_if (jp (JM jD jw i3 (n3 5) (n3 2))) (ze (ju hE jz rfl rfl T.m_NoRule T.e_NoRule (za s3 zb))) zu)))))),fun ds Q h=>?_⟩
 obtain⟨rs,T',n,rfl,htx,q,hE'⟩:=h
 walk_at "rd"
 refine je dRl rs (fun done ρ=>∃ t3 t4 t5:Option L3.Cl,ρ = [some #[19],#[5,T'],#[5,n],t3,t4,t5]/\okRs T' n done) ?_ ?_ ⟨none,none,none,rfl,fun r h=>by cases h⟩
 . rintro done r rest ρ hd ⟨t3,t4,t5,rfl,hok⟩ W hW
   have hr:r∈rs:=by rw [hd];simp
   walk_at "rd"
   refine⟨htx r hr,zin,ite2 (fun z=>hE' fun y=>(zfA _).mp z (y r hr).1) fun z=>⟨fun h1=>?_,fun h1=>hE' fun y=>h1 (y r hr).2.1⟩⟩
   by_cases h2:0<=r.2.2
   . rw [if_pos h2]
     refine ite2 (fun h3=>hE' fun y=>h3 (y r hr).2.2.2) fun h3=>hW _ ⟨_,_,_,rfl,fun x hx=>?_⟩
     rcases Ya3.mp hx with y|y
     . exact hok x y
     . rw [Ya6.mp y]
       exact⟨Decidable.not_not.mp fun y=>z ((zfA _).mpr y),h1,h2,Decidable.not_not.mp h3⟩
   . rw [if_neg h2]
     exact hE' fun y=>h2 (y r hr).2.2.1
 . rintro ρ ⟨t3,t4,t5,rfl,hok⟩
   exact q hok
theorem zkJ(T:#[53]):dd_forbidden P w K mg base:=by
 obtain⟨f,fd,F,hm⟩:=T.d_forbidden;have S:FnScope ["rules", "clans", "found", "word", "turn", "clan", "other"] ["rules", "clans"] (zh zgH):=#[10]
 refine⟨fun ds Q Q' hQ h=>?_,⟨f,fd,fnC [] F S (fun ds Q h=>?_) (fun cdv A outer s H H0 E E3 hE hr=>?_),F.binds fun _ _ _ _ _ _ us hl=>by obtain⟨_,_,rfl⟩:=z8 hl;rfl,F.kp,hm⟩⟩
 . obtain⟨a,b,e,x,y,h1⟩:=h;exact⟨a,b,e,x,y,fun z w v=>hQ _ _ (h1 z w v)⟩
 . obtain⟨_,_,rfl,_⟩:=h;exact⟨rfl,by simp [jj]⟩
 refine⟨_,(zc #[9,znC,2]
  (zc (zC WaZ rfl (zH (n3 0)) (zW (n:=3) rfl (zy #[9,zg,3] (zy #[9,zg,4] (zy #[9,zg,5] zV)))) (ze (zC WaZ rfl (jh rfl T.n_range #[50]) #[9,zg,6] (ze (s_if (zm #[49] (cmp3 #[49] (n3 6) (n3 5) #[25]) (cmp3 #[49] (n3 3) (g3s rfl T.m_BARRED) #[25]) #[25]) (ze (ziU (i:=2) (jK hr) rfl #[2] (n3 4) (n3 6) b3)) zu)))))
  (ze (znJ (i:=2) rfl #[2])))),fun ds Q h=>?_⟩
 obtain⟨rs,n,rfl,h8,hl,q⟩:=h;walk_at "q"
 walk_at "n";refine zP (fun ρ=>∃ (ds:List #[33]) (t3 t4 t5 t6:#[44]),ρ = [some #[19],#[5,n],some (.dt ds),t3,t4,t5,t6]/\(ds.all fun p=>zq p.2)=true/\jY rs n ds) (fun N hN=>?_) ?_
 . walk_at "rd"
   refine je dRl rs (fun done ρ=>∃ (ds:List #[33]) (t3 t4 t5 t6:#[44]),ρ = [some #[19],#[5,n],some (.dt ds),t3,t4,t5,t6]/\(ds.all fun p=>zq p.2)=true/\ds.length<=8*done.length/\jY done n ds) ?_ (fun ρ ⟨ds,t3,t4,t5,t6,e,h1,_,h2⟩=>hN _ ⟨ds,t3,t4,t5,t6,e,h1,h2⟩) ⟨[],none,none,none,none,rfl,rfl,WbF _,jY.nil n⟩
   rintro done r rest ρ hd ⟨ds,t3,t4,t5,t6,rfl,hs,hdl,hF⟩ W hW
   have hdn:done.length<rs.length:=by rw [hd,YaS,List.length_cons];omega
   walk_at "rd"
   refine⟨#[0],#[0],?_⟩
   rw [Int.toNat_natCast];refine jf (fun j ρ=>∃ (ds:List #[33]) (t6:#[44]),ρ = [some #[19],#[5,n],some (.dt ds),some (.sh true (.str r.1)),#[5,r.2.1],#[5,r.2.2],t6]/\(ds.all fun p=>zq p.2)=true/\ds.length<=8*done.length+j/\j5 done r n j ds) ?_ ?_ ⟨ds,_,rfl,hs,hdl,hF.part⟩
   . rintro j ρ hj ⟨ds,t6,rfl,hs,hdl,hP⟩ V hV
     walk_at "rd"
     refine⟨by rfl,by rfl,ite2 (fun e=>⟨YaU (show _<1000000 by omega) #[1],hV _ ⟨_,_,rfl,ziG hs rfl,?_,hP.put e⟩⟩) fun e=>hV _ ⟨_,_,rfl,hs,#[0],hP.skip e⟩⟩
     have:=zjs ds (kk r.2.1 (0+(j:Int))) (.bool true)
     omega
   . rintro ρ ⟨ds,t6,rfl,hs,hdl,hP⟩
     refine hW _ ⟨ds,_,_,_,_,rfl,hs,?_,hP.whole⟩
     rw [YaS,List.length_singleton]
     omega
 rintro ρ ⟨ds,t3,t4,t5,t6,rfl,hs,hF⟩
 walk_at "rd"
 exact q ds hs hF
theorem zhi(T:#[53]):dd_may_come P w K mg base:=by
 obtain⟨f,fd,F,hm⟩:=T.d_may_come;have S:FnScope ["visit", "turn", "barred"] ["visit", "turn", "barred"] (zh ze6):=#[10]
 refine⟨fun ds Q Q' hQ h=>?_,⟨f,fd,fnC [] F S (fun ds Q h=>?_) (fun cdv A outer s H H0 E E3 hE hr=>?_),F.binds fun _ _ _ _ _ _ us hl=>by obtain⟨_,_,_,rfl⟩:=jS hl;rfl,F.kp,hm⟩⟩
 . obtain⟨a,b,d,e,x,h1⟩:=h;exact⟨a,b,d,e,x,hQ _ _ h1⟩
 . obtain⟨_,_,_,rfl,hs,_⟩:=h;exact⟨rfl,by simpa [jj] using hs⟩
 refine⟨_,(zc (s_if (pw3 (jc (zm jw (n3 1) (at3 (n3 0) i3 #[4]) #[25]) (jA (pw3 (Ja (zm Jr (at3 (n3 0) i3 #[4]) non3 #[25]) (JY (zm jN (n3 1) (at3 (n3 0) i3 #[4]) #[25]))))))) (ze (za5 b3)) zu)
  (ze (za5 (zmy (i:=2) (jK hr) rfl #[2] (n3 1) (at3 (n3 0) i3 #[4]))))),fun ds Q h=>?_⟩
 obtain⟨⟨vc,vj,vo,vl⟩,t,ds,rfl,hs,q⟩:=h;unfold mayD at q;dsimp only at q;cases vl with
 | none=>
  walk_at "rd dO"
  refine ite2 (fun e=>?_) fun e=>?_
  . rw [if_pos e] at q;exact q
  . rw [if_neg e] at q;exact q
 | some x=>
  walk_at "rd dO"
  refine ite2 (fun e=>?_) fun e=>?_
  . rw [if_pos e] at q;exact q
  . rw [if_neg e] at q
    dsimp only at q;refine ite2 (fun e=>?_) fun e=>?_
    . rw [if_pos e] at q;exact q
    . rw [if_neg e] at q;exact q
theorem zjx(T:#[53]):dd_choices_of_turns c P w K mg base:=by
 have znM:dd_check_rules c P w K mg base:=zgX T;have znV:dd_forbidden P w K mg base:=zkJ T;have zoe:dd_may_come P w K mg base:=zhi T;obtain⟨f,fd,F,hm⟩:=T.d_choices_of_turns;have S:FnScope ["told", "visits", "rules", "turns", "clans", "barred", "found", "turn"] ["told", "visits", "rules"] (zh zb9):=#[10]
 refine⟨fun ds Q Q' E E' hQ hE h=>?_,⟨f,fd,fn3 F S (fun ds Q E h=>?_) (fun cdv A outer s H E E3 hE hr=>?_),F.binds fun _ _ _ _ _ _ us hl=>by obtain⟨_,_,_,rfl⟩:=jS hl;rfl,F.kp,hm⟩⟩
 . obtain⟨a,b,d,f,g,i,e,x1,x2,x3,x4,x5,x8,x6,x7,h1,h2⟩:=h;exact⟨a,b,d,f,g,i,e,x1,x2,x3,x4,x5,x8,x6,x7,fun z u v w y=>hQ _ _ (h1 z u v w y),fun z=>hE _ (h2 z)⟩
 . walk_at "l"
 refine⟨_,(zc (#[9,zi,3] (op3 jx (zw zD rfl T.n_len zE (za (at3 (n3 0) i3 #[4]) zb)) i3))
  (zc (#[9,zi,4] (zw zD rfl T.n_len zE (za (at3 (at3 (n3 0) i3 #[4]) i3 #[4]) zb)))
  (zc (Zz (df3 hE znM #[7] rfl zo (za (n3 2) (za (n3 3) (za (n3 4) zb)))))
  (zc (zct (i:=5) [] #[1] S.nd rfl #[2] znV #[7] rfl zo (za (n3 2) (za (n3 4) zb)))
  (zc (#[9,jH,6] (jd zb))
  (zc (zjt 5 (zC WaZ rfl (JO rfl T.n_range (za i3 (za (op3 zF (n3 3) i3) zb))) #[9,zg,7] (ze (jZ (i:=6) rfl #[2] (new3 (zY ["place", "visit"] ["turn", "barred"] [7,5] rfl (zQ (osc:=zh zb9) #[3]) rfl (zbj rfl T.n_enumerate #[50]) (fun H0 s H fp cl=>⟨(zW (n:=2) rfl (zy (zg (i:=0) (show((["place", "visit"]:List PySem.Str)++(["turn", "barred"]:List PySem.Str)).Nodup by decide) rfl #[2]) (zy (zg (i:=1) (show((["place", "visit"]:List PySem.Str)++(["turn", "barred"]:List PySem.Str)).Nodup by decide) rfl #[2]) zV))),(zaA (val3 (dfX (E:=fun _ _ _=>False) zoe #[7] rfl JL (za (n3 1) (za (n3 2) (za (n3 3) zb)))))),(n3 0)⟩)))))))
  (ze (jG [6] (zp (n3 6)))))))))),fun ds Q h=>?_⟩
 obtain⟨b,qs,V,rs,n,T',rfl,hq,hT,hn,h8,hV,hVc,hrl,htx,q,hE'⟩:=h;have hd0:atI (qs.map dI) 0=some (PyData.list ((qs[0]'(by omega)).map PyData.int)):=zbE (i:=0) #[0]
 have h0n:(qs[0]'(by omega)).length=n:=hn _ (Ya4 _)
 have et:((qs.length:Int) - 1)=(T':Int):=#[0]
 walk_at "s"
 walk_at "rd YaR et"
 walk_at "u"
 walk_at "rd hd0 YaR h0n"
 walk_at "v"
 refine⟨rs,rfl,htx,fun hok=>hN _ ?_,hE'⟩
 walk_at "w"
 refine⟨rs,rfl,n,rfl,h8,hrl,fun ds hds hF=>hN _ ?_⟩
 walk_at "w"
 walk_at "n";refine zP (fun ρ=>∃ (ch:List #[23]) (t7:#[44]), ρ = [some #[69],some #[24],some #[19],#[5,T'],#[5,n],some (.fd ds),some (.ow true (ch.map dI)),t7]/\ch.length=T'/\(∀ row∈ch,row.length<=2000/\∀ x∈row,InR x V.length)/\ChOk rs V ch) (fun N hN=>?_) ?_
 . walk_at "rd"
   refine⟨#[1],#[1],#[0],#[0],?_⟩
   rw [show((T':Int)+1 - 1).toNat=T' by omega]
   refine jf (fun k ρ=>∃ (ch:List #[23]) (t7:#[44]), ρ = [some #[69],some #[24],some #[19],#[5,T'],#[5,n],some (.fd ds),some (.ow true (ch.map dI)),t7]/\ch.length=k/\(∀ row∈ch,row.length<=2000/\∀ x∈row,InR x V.length)/\ChOk rs V ch) ?_ (fun ρ h=>hN ρ h) ⟨[],_,rfl,rfl,fun row h=>(by cases h),fun k h=>absurd h (Wbe _)⟩
   rintro k ρ hk ⟨ch,t7,rfl,hcl,hrow,hch⟩ W hW
   walk_at "rd"
   rw [zdE];refine⟨sz (by rw [YaR,YaG];omega),?_⟩
   refine zbb (fun i:Nat=>PyData.tuple [PyData.int (i:Nat),dW (V.getD i #[59])]) (fun i:Nat=>PyData.int (i:Nat)) (fun i:Nat=>mayD ds (V.getD i #[59]) (1+(k:Int))) (fun ρ=>∃ t0 t1,ρ = [t0,t1,#[5,(1+(k:Int))],some (.fd ds)]) (List.range V.length) ?_ _ _ _ _ ⟨none,none,rfl⟩ ?_
   . rintro i hi ρ fa acc K ⟨t0,t1,rfl⟩ k1
     walk_at "rd"
     refine⟨hds,V.getD i #[59],rfl,rfl,rfl,rfl,hds,?_⟩
     by_cases e:mayD ds (V.getD i #[59]) (1+(k:Int))=true
     . rw [if_pos e] at k1
       rw [if_pos e];exact k1 _ ⟨_,_,rfl⟩
     . rw [if_neg e] at k1
       rw [if_neg e];exact k1 _ ⟨_,_,rfl⟩
   . have hm:((List.range V.length).filter fun i:Nat=>mayD ds (V.getD i #[59]) (1+(k:Int))).map (fun i:Nat=>PyData.int (i:Nat))=(((List.range V.length).filter fun i:Nat=>mayD ds (V.getD i #[59]) (1+(k:Int))).map fun i:Nat=>(i:Int)).map PyData.int:=by rw [YaD];rfl
     have hyl:=List.length_filter_le (fun i:Nat=>mayD ds (V.getD i #[59]) (1+(k:Int))) (List.range V.length)
     rw [YaG] at hyl;rw [List.nil_append,hm];refine⟨YaU (show _<1000 by rw [YaR];omega) #[1],hW _ ⟨ch++[((List.range V.length).filter fun i:Nat=>mayD ds (V.getD i #[59]) (1+(k:Int))).map fun i:Nat=>(i:Int)],_,by rw [Ya2];rfl,by simp [hcl],fun row hr=>?_,?_⟩⟩
     rcases Ya3.mp hr with z|z
     . exact hrow row z
     . rw [Ya6.mp z]
       refine⟨by rw [YaR];omega,fun x hx=>?_⟩
       obtain⟨i,hi,rfl⟩:=Ya7.mp hx;have:=Yba.mp (Ya9.mp hi).1;exact⟨#[0],#[0]⟩
     . refine hch.snoc fun i hi=>?_
       rw [hcl,<-zh5 hF (hVc _ (jQ hi)),show(((k:Nat):Int)+1)=1+(k:Int) by omega]
       constructor
       . intro z
         obtain⟨j,hj,e⟩:=Ya7.mp z;have:j=i:=#[0]
         subst this;exact(Ya9.mp hj).2
       . intro z
         exact Ya7.mpr ⟨i,Ya9.mpr ⟨Yba.mpr hi,z⟩,rfl⟩
 rintro ρ ⟨ch,t7,rfl,hcl,hrow,hch⟩
 walk_at "rd"
 exact q hok ch hcl hrow hch
theorem zlV(T:#[53]):dd_placed c P w K mg base:=by
 have zoi:dd_quotas c P w K mg base:=zhK T;have zop:dd_windows_within P w K mg base:=zg6 T;have zog:dd_place_visits P w K mg base:=zlA T;have zok:dd_rooms_of c P w K mg base:=zkl T;have znQ:dd_choices_of_turns c P w K mg base:=zjx T;obtain⟨f,fd,F,hm⟩:=T.d_placed;have S:FnScope ["spells", "bounds", "rules", "told", "visits"] ["spells", "bounds", "rules"] (zh zen):=#[10]
 refine⟨fun ds Q Q' E E' hQ hE h=>?_,⟨f,fd,fn3 F S (fun ds Q E h=>?_) (fun cdv A outer s H E E3 hE hr=>?_),F.binds fun _ _ _ _ _ _ us hl=>by obtain⟨_,_,_,rfl⟩:=jS hl;rfl,F.kp,hm⟩⟩
 . obtain⟨a,b,d,e,x1,x2,x3,x4,h1,h2,h3,h4⟩:=h;exact⟨a,b,d,e,x1,x2,x3,x4,fun u v w W y d z=>hQ _ _ (h1 u v w W y d z),fun u=>hE _ (h2 u),fun u v=>hE _ (h3 u v),fun u v w=>hE _ (h4 u v w)⟩
 . walk_at "l"
 refine⟨_,(zc (#[9,zi,3] (df3 hE zoi #[7] rfl zo (za (n3 0) zb)))
  (zc (#[9,zi,4] (df3 hE zop #[7] rfl zo (za (n3 3) (za (df3 hE zok #[7] rfl zo (za (n3 3) #[50])) zb))))
  (ze (zp (df3 hE zog #[7] rfl zo (za (n3 4) (za (df3 hE znQ #[7] rfl zo (za (n3 3) (za (n3 4) (za (n3 2) zb)))) zb))))))),fun ds Q h=>?_⟩
 obtain⟨l,bs,rs,rfl,hbl,ho,hrl,htx,q,hE1,hE2,hE3⟩:=h;walk_at "q"
 refine⟨l,rfl,fun hok=>hN _ ?_,hE1⟩
 clear hN N;have hm:=j6 hok;have hbp:=Jp hok;have hql:=j7 hok;have htn:=jb fun s hs=>(hok.2.1 s hs).1
 have h60:=hok.2.2;have hqr:∀ r∈quo l,r.length=many l:=fun r hr=>zbq hok (b:=bot l) hr
 have hb2:Bits 2000 (bot l):=(zfP hok).mono #[1]
 walk_at "q"
 refine⟨quo l,rfl,bs,rfl,hb2,#[0],many l,hqr,hm.2,#[0],ho,fun hB=>?_,fun z=>hE2 hok z⟩
 have hrl':(zx (bot l) bs).length=many l:=by unfold zx;rw [YaR];exact hB.1
 refine⟨quo l,rfl,zx (bot l) bs,rfl,hbp,hb2,#[0],#[0],#[0],fun r hr=>by rw [hrl'];exact hqr r hr,fun r hr x hx=>?_,fun p hp=>?_,fun W w1 w2 w3=>hN _ ?_⟩
 . have h1:=ZJ hok hbp r hr x hx
   have h2:tot l*bot l<=60*bot l:=Ybe h60 #[0]
   omega
 . unfold zx at hp
   obtain⟨z,hz,rfl⟩:=Ya7.mp hp;obtain⟨z1,z2⟩:=hB.2 z hz;obtain⟨y1,y2⟩:=ho z hz;refine⟨Wbh (YaK z1.1 #[0]) (by have:=y1.1;omega),Wbh (YaK z2.1 #[0]) (by have:=y2.1;omega),?_⟩
   refine WaC y2.1 ?_
   have h1:z.2.1*bot l<=10*z.2.2*bot l:=Ybe z2.2 #[0]
   have h2:0<=z.2.2*bot l:=YaK (by have:=y2.1;omega) #[0]
   have e1:10*z.2.2*bot l=10*(z.2.2*bot l):=Wbu _ _ _;have e2:20*bot l*z.2.2=20*(z.2.2*bot l):=by rw [Wbu,WbB (bot l)]
   omega
 clear hN N;have hW:IsWs l bs W:=⟨by rw [<-hrl'];exact w1,fun k hk=>w2 k (by rw [hrl'];exact hk)⟩
 clear w1 w2;have hVc:∀ v∈W.flatten,InR v.1 (many l):=fun v hv=>by
  obtain⟨k,hk,i,_,rfl⟩:=hW.get hv;exact⟨by show(0:Int)<=(k:Int);omega,by show(k:Int)<_;omega⟩
 have eT:(((tot l).toNat:Nat):Int)=tot l:=#[0]
 walk_at "rd"
 refine⟨quo l,rfl,W.flatten,rfl,rs,rfl,many l,(tot l).toNat,#[0],#[0],hqr,hm.2,w3,hVc,hrl,htx,fun hR ch hc1 hc2 hc3=>⟨W.flatten,rfl,ch,rfl,w3,#[0],hc2,fun d hd=>q hok hB (by rw [<-eT];exact hR) W hW d ?_⟩,fun hR=>hE3 hok hB fun z=>hR (by rw [eT];exact z)⟩
 rw [hc1] at hd;exact hd.imp fun k hk i hi=>hc3 k #[0] i hi
theorem zfu(T:#[53]):dd_law_windows P w K mg base:=by
 obtain⟨f,fd,F,hm⟩:=T.d_law_windows;have S:FnScope ["_law_bottom", "_law_told", "_law_bounds_here", "_law_turns", "_law_made", "_law_clan", "_law_below", "_law_above", "_law_j", "_law_opens", "_law_last", "_law_turn", "_law_ahead", "_law_behind"] ["_law_bottom", "_law_told", "_law_bounds_here"] (zh zgg):=#[10]
 refine⟨fun ds Q Q' E E' hQ hE h=>?_,⟨f,fd,fn3 F S (fun ds Q E h=>?_) (fun cdv A outer s H E E3 hE hr=>?_),F.binds fun _ _ _ _ _ _ us hl=>by obtain⟨_,_,_,rfl⟩:=jS hl;rfl,F.kp,hm⟩⟩
 . obtain⟨a,b,d,e,x1,x2,x3,x4,h⟩:=h;exact⟨a,b,d,e,x1,x2,x3,x4,hQ _ _ h⟩
 . walk_at "l"
 refine⟨_,(zc (#[9,zi,3] (op3 jx (zw zD rfl T.n_len zE #[50]) i3))
  (zc (#[9,jH,4] (jd zb))
  (zc (zC WaZ rfl (jh rfl T.n_range (za (zw zD rfl T.n_len zE (za (n3 2) zb)) zb)) #[9,zg,5] (zc (zbf (at3 (n3 2) (n3 5) #[4]) (zW (n:=2) rfl (zy #[9,zg,6] (zy #[9,zg,7] zV))))
   (ze (zC WaZ rfl (JO rfl T.n_range (za i3 (za (op3 zF (n3 3) i3) zb))) #[9,zg,8] (zc (#[9,zi,9] (op3 zF (n3 3) i3))
    (zc (#[9,zi,10] i3)
    (zc (zC WaZ rfl (zhy rfl T.n_range (za (n3 3) (za i3 (za (un3 zdd i3) zb)))) #[9,zg,11] (zc (#[9,zi,12] (op3 jx (op3 zN (n3 8) (n3 0)) (at3 (at3 (n3 1) (n3 11) #[4]) (n3 5) #[4])))
     (ze (s_if (zm jD (op3 zN (n3 12) (at3 (n3 7) i3 #[4])) (op3 zN (at3 (n3 7) i3 #[4]) (n3 0)) #[25]) (ze (#[9,zi,9] (n3 11))) zu))))
    (zc (zC WaZ rfl (jh rfl T.n_range (za (op3 zF (n3 3) i3) zb)) #[9,zg,11] (zc (#[9,zi,13] (op3 jx (at3 (at3 (n3 1) (n3 11) #[4]) (n3 5) #[4]) (op3 zN (op3 jx (n3 8) i3) (n3 0))))
     (ze (s_if (zm jD (op3 zN (n3 13) (at3 (n3 6) i3 #[4])) (op3 zN (at3 (n3 6) i3 #[4]) (n3 0)) #[25]) (ze (#[9,zi,10] (op3 zF (n3 11) i3))) zu))))
    (zc (s_if (zm jN (n3 10) (n3 3) #[25]) (ze (#[9,zi,10] non3)) zu)
    (ze (s_if (pw3 (jc (zm Jr (n3 10) non3 #[25]) (jA (zm jD (n3 9) (n3 3) #[25])))) (ze (jZ (i:=4) rfl #[2] (zR (za (n3 5) (za (n3 8) (za (n3 9) (za (n3 10) zb))))))) zu)))))))))))
  (ze (jG [4] (zp (n3 4))))))),fun ds Q h=>?_⟩
 obtain⟨l,bs,W,rfl,hok,hB,ho,hW,q⟩:=h;have hm:=j6 hok;have htn:=jb fun s hs=>(hok.2.1 s hs).1
 have h60:=hok.2.2;have hql:=ZF hok (zl l);have hpp:=zaz hok;have hpb:=za3 hok;have hqb:=zdu hok;have hsm:=hW.small hok hB ho;have hIs:=fun k hk=>zj6 hok hB ho hW (k:=k) hk
 have hmon:=fun k s t=>zfe hok (b:=zl l) #[0] k s t
 have hz:=zmA l (zl l);have h71:=zer hok hB ho hW;have hWl:=hW.1;have hbl:=hB.1;generalize zl l=B at *;generalize quoB B l=qs at *;obtain⟨T',hT⟩:∃ T':Nat,T'+1=qs.length:=⟨qs.length - 1,#[0]⟩
 have eT:(qs.length:Int) - 1=(T':Int):=#[0]
 have hT60:T'<=60:=#[0]
 have hcl:∀ k,(zd qs k).length=T'+1:=fun k=>by unfold zd;rw [YaR];omega
 have hcol:∀ k t (ht:t<qs.length),(zd qs k).getD t 0=qs[t].getD k 0:=fun k t ht=>by
  unfold zd;rw [YaP,Ya0,YaQ ht];rfl
 walk_at "s"
 walk_at "rd YaR"
 rw [eT];walk_at "v"
 walk_at "n"
 walk_at "rd YaR"
 refine⟨#[0],#[0],?_⟩
 rw [Int.toNat_natCast];refine jf (fun k ρ=>∃ t5 t6 t7 t8 t9 t10 t11 t12 t13:Option L3.Cl,ρ = (wE B qs bs T' (((W.take k).flatten).map dW) [t5,t6,t7,t8,t9,t10,t11,t12,t13])) ?_ ?_ ⟨none,none,none,none,none,none,none,none,none,rfl⟩
 . rintro k ρ hk ⟨t5,t6,t7,t8,t9,t10,t11,t12,t13,rfl⟩ Z hZ
   have hkm:k<many l:=#[0]
   have hpm:bs.getD k #[68]∈bs:=jQ hk;have hat:atI (bs.map dP) (k:Int)=some (dP (bs.getD k #[68])):=by
    refine jt ?_
    rw [Ya0,YaQ hk,YaP,YaQ hk];rfl
   have hI:=hIs k hkm;have hp:=ho _ hpm;have hi:=hB.2 _ hpm;have hzk:=hz k;have hmk:=hmon k;generalize bs.getD k #[68]=p at hat hI hp hi;simp only [wE,gn3,List.set_cons_zero,List.set_cons_succ,zq,WbE,WbC];walk_at "s"
   walk_at "rd hat"
   refine hN _ ?_
   clear hN N hat
   walk_at "rd"
   refine⟨#[0],#[0],#[0],#[0],?_⟩
   rw [show((T':Int)+12 - 1).toNat=T'+11 by omega]
   refine jf (lo:=1) (fun i ρ=>∃ t8 t9 t10 t11 t12 t13:Option L3.Cl,ρ = (wE B qs bs T' #[45] [#[5,(k:Int)],some (.sh false (dQ p.1)),some (.sh false (dQ p.2)),t8,t9,t10,t11,t12,t13])) ?_ ?_ ⟨t8,t9,t10,t11,t12,t13,by rw [List.take_zero,Yao];rfl⟩
   . clear t5 t6 t7 t8 t9 t10 t11 t12 t13
     rintro i ρ hi' ⟨t8,t9,t10,t11,t12,t13,rfl⟩ Y hY
     obtain⟨st1,st2⟩:=hI.step hpp (by rw [hcl];omega) hp i
     have bj:Bits 64 (1+(i:Int)):=Bits.lit (x:=1+(i:Int)) 64 #[0]
     have hj1:1<=1+(i:Int):=#[0]
     simp only [wE,gn3,List.set_cons_zero,List.set_cons_succ,zq,WbE];rw [hcl] at st1 st2;generalize 1+(i:Int)=j at st1 st2 bj hj1;walk_at "q"
     walk_at "v"
     walk_at "n";have jB:=bj.mul hpb;have hx:∀ t,t<qs.length->atI (qs.map dI) (t:Int)=some (PyData.list ((qs.getD t []).map PyData.int))/\atI ((qs.getD t []).map PyData.int) (k:Int)=some (PyData.int ((zd qs k).getD t 0))/\Bits 1000 ((zd qs k).getD t 0):=fun t ht=>by
      have hq:=hqb _ (Ya4 ht);have e:qs.getD t []=qs[t]:=by rw [YaP,YaQ ht];rfl
      have hx:=Zb (xs:=qs[t]) (i:=(k:Int)) #[0] #[0]
      rw [Int.toNat_natCast] at hx;rw [e,hcol k t ht];refine⟨zbE ht,hx,?_⟩;refine hq.2 _ ?_;rw [YaP,YaQ #[0]];exact Ya4 _
     refine zP (fun ρ'=>∃ t11 t12:Option L3.Cl,ρ'=(wF B qs bs T' #[45] k p j [#[5,((zk (T'+1) (z7 B (zd qs k) p.2 j):Nat):Int)],#[5,0],t11,t12,t13])) (fun N hN=>?_) ?_
     . walk_at "rd"
       refine⟨#[0],#[0],#[1],#[1],?_⟩
       rw [show((T':Int) - 0).toNat=T' by omega]
       refine znG (fun m ρ=>∃ t11 t12:Option L3.Cl,ρ = (wF B qs bs T' #[45] k p j [#[5,((jP (z7 B (zd qs k) p.2 j) (T' - m+1) m:Nat):Int)],#[5,0],t11,t12,t13])) ?_ ?_ ⟨t11,t12,by rw [show T' - 0+1=T'+1 by omega];rfl⟩
       . clear t11 t12
         rintro m ρ hm' ⟨t11,t12,rfl⟩ V hV
         obtain⟨x1,x2,x3⟩:=hx (T' - m) #[0]
         rw [show(T':Int) - (m:Int)=((T' - m:Nat):Int) by omega,show T' - m+1=(T' - m)+1 from rfl]
         have ef:jP (z7 B (zd qs k) p.2 j) (T' - (m+1)+1) (m+1)=if z7 B (zd qs k) p.2 j (T' - m)=true then T' - m else jP (z7 B (zd qs k) p.2 j) (T' - m+1) m:=by
          rw [show T' - (m+1)+1=T' - m by omega];rfl
         walk_at "rd x1 x2 atI0 atI1"
         refine⟨bj.mulOk hpb #[1],((jB.mono (by decide:64+900<=1000)).sub x3).mulOk hp.2.2.2 #[1],hp.2.2.1.mulOk hpb #[1],ite2 (fun z=>?_) fun z=>?_⟩
         . rw [if_pos (show z7 B (zd qs k) p.2 j (T' - m)=true from decide_eq_true z)] at ef
           exact hV _ ⟨_,_,by rw [ef];rfl⟩
         . rw [if_neg (show ¬z7 B (zd qs k) p.2 j (T' - m)=true from fun y=>z (of_decide_eq_true y))] at ef
           exact hV _ ⟨_,_,by rw [ef];rfl⟩
       . rintro ρ ⟨t11,t12,rfl⟩
         exact hN _ ⟨_,_,by rw [WbD];rfl⟩
     clear t11 t12
     rintro ρ ⟨t11,t12,rfl⟩
     have l0:=zkk hpp hzk hp.1.1 hi.1 hj1;have lm:∀ s t,s<=t->t<T'+1->zX B (zd qs k) p.1 j s=true->zX B (zd qs k) p.1 j t=true:=fun s t h1 h2 h3=>zmX hp.1.1 (hmk s t h1 #[0]) h3
     obtain⟨f1,f2,_,_⟩:=z9 (n:=T'+1) #[0] (zX B (zd qs k) p.1 j)
     refine zP (fun ρ'=>∃ t11 t13:Option L3.Cl,ρ'=(wF B qs bs T' #[45] k p j [#[5,((zk (T'+1) (z7 B (zd qs k) p.2 j):Nat):Int)],#[5,((zk (T'+1) (zX B (zd qs k) p.1 j):Nat):Int)],t11,t12,t13])) (fun N hN=>?_) ?_
     . walk_at "rd"
       refine⟨#[0],#[0],?_⟩
       rw [show((T':Int)+1).toNat=T'+1 by omega]
       refine jf (fun m ρ=>∃ t11 t13:Option L3.Cl,ρ = (wF B qs bs T' #[45] k p j [#[5,((zk (T'+1) (z7 B (zd qs k) p.2 j):Nat):Int)],#[5,((min m (zk (T'+1) (zX B (zd qs k) p.1 j)):Nat):Int)],t11,t12,t13])) ?_ ?_ ⟨t11,t13,by rw [Nat.zero_min];rfl⟩
       . clear t11 t13
         rintro m ρ hm' ⟨t11,t13,rfl⟩ V hV
         obtain⟨x1,x2,x3⟩:=hx m #[0]
         have ef:=zlP #[0] l0 lm hm'
         have ee:(zd qs k).getD m 0 - (j - 1)*B=(zd qs k).getD m 0 - j*B+B:=by rw [WbH,WbI];omega
         rw [WbC]
         walk_at "rd x1 x2 atI0 atI1"
         have bj1:Bits 65 (j - 1):=bj.sub (Bits.lit (x:=1) 64);refine⟨bj1.mulOk hpb #[1],(x3.sub ((bj1.mul hpb).mono (by decide:65+900<=1000))).mulOk hp.1.2.2 #[1],hp.1.2.1.mulOk hpb #[1],ite2 (fun z=>?_) fun z=>?_⟩
         . rw [ee] at z
           rw [if_neg (show ¬zX B (zd qs k) p.1 j m=true from fun y=>by have:=of_decide_eq_true y;omega)] at ef
           exact hV _ ⟨_,_,by rw [ef];rfl⟩
         . rw [ee] at z
           rw [if_pos (show zX B (zd qs k) p.1 j m=true from decide_eq_true #[0])] at ef
           exact hV _ ⟨_,_,by rw [ef];rfl⟩
       . rintro ρ ⟨t11,t13,rfl⟩
         exact hN _ ⟨_,_,by rw [Nat.min_eq_right f2]⟩
     clear t11 t13
     rintro ρ ⟨t11,t13,rfl⟩
     have hsl:(((W.take k).flatten++(W.getD k []).take i).map dW).length<sizeLine:=YaU (show _<1000 by
      rw [YaR,YaS];have e:W.flatten=(W.take k).flatten++(W.getD k []++(W.drop (k+1)).flatten):=by
       rw [<-List.flatten_cons,<-List.flatten_append,YaP,YaQ #[0]]
       show _=(W.take k++W[k]::W.drop (k+1)).flatten
       rw [<-Wag,List.take_append_drop]
      have:=congrArg List.length e;rw [YaS,YaS] at this;have:=List.length_take_le' i (W.getD k [])
      omega) #[1]
     have e1:(winL B (zd qs k) p j).1=((zk (T'+1) (z7 B (zd qs k) p.2 j):Nat):Int):=by unfold winL winP;rw [hcl]
     have e2:(winL B (zd qs k) p j).2=if zk (T'+1) (zX B (zd qs k) p.1 j)=T'+1 then none else some ((zk (T'+1) (zX B (zd qs k) p.1 j):Nat):Int):=by unfold winL winP;rw [hcl]
     have yes:zS (T'+1) (winL B (zd qs k) p j)->Y ((wF B qs bs T' (((W.take k).flatten++(W.getD k []).take i).map dW++[.tuple [.int (k:Int),.int j,.int ((zk (T'+1) (z7 B (zd qs k) p.2 j):Nat):Int),dO (winL B (zd qs k) p j).2]]) k p j [#[5,((zk (T'+1) (z7 B (zd qs k) p.2 j):Nat):Int)],some (.sh true (dO (winL B (zd qs k) p j).2)),t11,t12,t13])):=fun z=>hY _ ⟨_,_,_,_,_,_,by
      rw [st1 z,e1,<-Yag,Ya2 (l₁:=(W.take k).flatten++(W.getD k []).take i)];rfl⟩
     have no:¬zS (T'+1) (winL B (zd qs k) p j)->Y ((wF B qs bs T' #[45] k p j [#[5,((zk (T'+1) (z7 B (zd qs k) p.2 j):Nat):Int)],some (.sh true (dO (winL B (zd qs k) p j).2)),t11,t12,t13])):=fun z=>hY _ ⟨_,_,_,_,_,_,by rw [st2 z];rfl⟩
     unfold zS at yes no;rw [e1] at yes no;generalize (winL B (zd qs k) p j).2=lst at e2 yes no;generalize zk (T'+1) (z7 B (zd qs k) p.2 j)=op at yes no;generalize zk (T'+1) (zX B (zd qs k) p.1 j)=la at e2 f1 f2
     by_cases hla:la=T'+1
     . rw [if_pos hla] at e2
       subst e2;walk_at "q"
       rw [if_pos #[0]]
       walk_at "n"
       walk_at "rd"
       refine ite2 (fun z=>⟨hsl,yes (.inl #[0])⟩) fun z=>no fun y=>?_
       rcases y with y|y
       . omega
       . exact y rfl
     . rw [if_neg hla] at e2
       subst e2;walk_at "q"
       rw [if_neg #[0]]
       walk_at "n"
       walk_at "rd"
       exact⟨hsl,yes (.inr (by nofun))⟩
   . rintro ρ ⟨t8,t9,t10,t11,t12,t13,rfl⟩
     have hkl:k<W.length:=#[0]
     have e:W.getD k []=W[k]:=by rw [YaP,YaQ hkl];rfl
     have hw:=h71 W[k] (Ya4 hkl);have e2:(W.take k).flatten++(W.getD k []).take (T'+11)=(W.take (k+1)).flatten:=by
      rw [e,Wat (l:=W[k]) #[0],WaW (l:=W),YaQ hkl,List.flatten_append]
      show _=_++[W[k]].flatten
      rw [List.flatten_singleton]
     rw [e2];exact hZ _ ⟨_,_,_,_,_,_,_,_,_,rfl⟩
 . rintro ρ ⟨t5,t6,t7,t8,t9,t10,t11,t12,t13,rfl⟩
   walk_at "rd"
   rw [Wat #[0]]
   exact q
theorem zeI(T:#[53]):dd_law_lets P w K mg base:=by
 obtain⟨f,fd,F,hm⟩:=T.d_law_lets;have S:FnScope ["_law_rules_here", "_law_turn", "_law_clan", "_law_word", "_law_at", "_law_who"] ["_law_rules_here", "_law_turn", "_law_clan"] (zh zfM):=#[10]
 refine⟨fun ds Q Q' E E' hQ hE h=>?_,⟨f,fd,fn3 F S (fun ds Q E h=>?_) (fun cdv A outer s H E E3 hE hr=>?_),F.binds fun _ _ _ _ _ _ us hl=>by obtain⟨_,_,_,rfl⟩:=jS hl;rfl,F.kp,hm⟩⟩
 . obtain⟨a,b,d,e,x1,x2,h⟩:=h;exact⟨a,b,d,e,x1,x2,fun u z=>hQ _ _ (h u z)⟩
 . walk_at "l"
 refine⟨_,(zc (zC WaZ rfl (zH (n3 0)) (zW (n:=3) rfl (zy #[9,zg,3] (zy #[9,zg,4] (zy #[9,zg,5] zV)))) (ze (s_if (pw3 (jc (pw3 (Ja (zm #[49] (n3 4) (n3 1) #[25]) (Ja (zm #[49] (n3 3) s3 #[25]) (JY (zm (jX hr.units) (n3 5) (n3 2) #[25]))))) (jA (pw3 (Ja (zm #[49] (n3 4) (n3 1) #[25]) (Ja (zm #[49] (n3 3) s3 #[25]) (JY (zm #[49] (n3 5) (n3 2) #[25])))))))) (ze (zp b3)) zu)))
  (ze (zp b3))),fun ds Q h=>?_⟩
 obtain⟨rs,t,c,rfl,htx,hw,q⟩:=h;refine zP (fun ρ=>(∃ t3 t4 t5:Option L3.Cl,ρ = [some #[19],#[5,t],#[5,c],t3,t4,t5])/\¬ja rs t c) (fun N hN=>?_) ?_
 . walk_at "rd"
   refine je dRl rs (fun done ρ=>(∃ t3 t4 t5:Option L3.Cl,ρ = [some #[19],#[5,t],#[5,c],t3,t4,t5])/\¬ja done t c) ?_ (fun ρ h=>hN ρ h) ⟨⟨none,none,none,rfl⟩,fun⟨r,h,_⟩=>by cases h⟩
   rintro done r rest ρ hd ⟨⟨t3,t4,t5,rfl⟩,hf⟩ V hV
   have hr:r∈rs:=by rw [hd];simp
   have hwr:=hw r hr;have no:¬(r.2.1=t/\(c=r.2.2↔r.1 = "barred"))->¬ja (done++[r]) t c:=fun h ⟨x,hx,e⟩=>by
    rcases Ya3.mp hx with z|z
    . exact hf ⟨x,z,e⟩
    . rw [Ya6.mp z] at e;exact h e
   have yes:r.2.1=t/\(c=r.2.2↔r.1 = "barred")->Q true (.bool false):=fun h=>q false ⟨fun z=>(by cases z),fun z=>absurd ⟨r,hr,h⟩ z⟩
   have go:¬(r.2.1=t/\(c=r.2.2↔r.1 = "barred"))->V [some #[19],#[5,t],#[5,c],some (.sh true (.str r.1)),#[5,r.2.1],#[5,r.2.2]]:=fun h=>hV _ ⟨⟨_,_,_,rfl⟩,no h⟩
   walk_at "rd"
   by_cases e:r.2.1=t
   . rcases hwr with w|w
     . rw [if_pos e,if_pos w]
       by_cases z:r.2.2=c
       . rw [if_neg (fun y=>y z),if_pos e,if_neg (fun y=>za7 (w.symm.trans y))]
         exact go fun h=>za7 (w.symm.trans (h.2.mp z.symm))
       . rw [if_pos z]
         exact yes ⟨e,⟨fun y=>absurd y.symm z,fun y=>absurd (w.symm.trans y) za7⟩⟩
     . rw [if_pos e,if_neg (fun y=>za7 (y.symm.trans w)),if_pos e,if_pos w]
       by_cases z:r.2.2=c
       . rw [if_pos z];exact yes ⟨e,⟨fun _=>w,fun _=>z.symm⟩⟩
       . rw [if_neg z];exact go fun h=>z (h.2.mpr w).symm
   . rw [if_neg e,if_neg e]
     exact go fun h=>e h.1
 . rintro ρ ⟨⟨t3,t4,t5,rfl⟩,hf⟩
   walk_at "rd"
   exact q true ⟨fun _=>hf,fun _=>rfl⟩
theorem zej(T:#[53]):dd_law_comes P w K mg base:=by
 have zn4:dd_law_lets P w K mg base:=zeI T;obtain⟨f,fd,F,hm⟩:=T.d_law_comes;have S:FnScope ["_law_window", "_law_turns", "_law_rules_here", "_law_clan", "_law_j", "_law_opens", "_law_last"] ["_law_window", "_law_turns", "_law_rules_here"] (zh zb6):=#[10]
 refine⟨fun ds Q Q' E E' hQ hE h=>?_,⟨f,fd,fn3 F S (fun ds Q E h=>?_) (fun cdv A outer s H E E3 hE hr=>?_),F.binds fun _ _ _ _ _ _ us hl=>by obtain⟨_,_,_,rfl⟩:=jS hl;rfl,F.kp,hm⟩⟩
 . obtain⟨a,b,d,e,x1,x2,x3,x4,x5,x6,x7,h⟩:=h;exact⟨a,b,d,e,x1,x2,x3,x4,x5,x6,x7,fun u z y=>hQ _ _ (h u z y)⟩
 . walk_at "l"
 refine⟨_,(zc (zbf (n3 0) (zW (n:=4) rfl (zy #[9,zg,3] (zy #[9,zg,4] (zy #[9,zg,5] (zy #[9,zg,6] zV))))))
  (zc (s_if (zm zhE (n3 6) non3 #[25]) (ze (#[9,zi,6] (n3 1))) zu)
  (ze (zp (new3 (zY ["_law_turn"] ["_law_rules_here", "_law_clan"] [2,3] rfl (zQ (osc:=zh zb6) #[3]) rfl (JO rfl T.n_range (za (n3 5) (za (op3 zF (n3 6) i3) zb))) (fun H0 s H fp cl=>⟨(zg (i:=0) (show((["_law_turn"]:List PySem.Str)++(["_law_rules_here", "_law_clan"]:List PySem.Str)).Nodup by decide) rfl #[2]),(zaA (val3 (df3 (E:=fun _ _ _=>False) (E3:=fun _=>False) (fun _ _ z _=>z) zn4 #[7] rfl JL (za (n3 1) (za (n3 0) (za (n3 2) zb)))))),(n3 0)⟩))))))),fun ds Q h=>?_⟩
 obtain⟨⟨c,j,o,la⟩,T,rs,rfl,htx,hw,h1,h100,hT0,hT,hlast,q⟩:=h;dsimp only at h1 h100 hlast q;walk_at "q"
 walk_at "n";have hL:0<=la.getD T/\la.getD T<=60:=by
  cases la with
  | none=>exact⟨hT0,hT⟩
  | some x=>have:=hlast x rfl;exact⟨this.1,by show x<=60;omega⟩
 refine zP (fun ρ=>∃ t0 t4:Option L3.Cl,ρ = [t0,#[5,T],some #[19],#[5,c],t4,#[5,o],#[5,la.getD T]]) (fun N hN=>?_) ?_
 . cases la with
   | none=>
    walk_at "rd dO"
    exact hN _ ⟨_,_,rfl⟩
   | some x=>
    walk_at "rd dO"
    exact hN _ ⟨_,_,rfl⟩
 rintro ρ ⟨t0,t4,rfl⟩
 generalize la.getD T=L at hL q;have dc:∀ t,Decidable (ja rs t c):=fun t=>Classical.propDecidable _
 walk_at "rd"
 refine⟨#[0],#[0],#[0],#[0],sz (by unfold nums;rw [YaR,YaG];omega),?_⟩
 refine zbb (fun i:Nat=>PyData.int (o+i)) (fun i:Nat=>PyData.int (o+i)) (fun i:Nat=>!decide (ja rs (o+(i:Int)) c)) (fun ρ=>∃ t,ρ = [t,some #[19],#[5,c]]) (List.range (L+1 - o).toNat) ?_ _ _ _ _ ⟨none,rfl⟩ ?_
 . rintro i hi ρ fa acc K ⟨t,rfl⟩ kk
   walk_at "rd"
   refine⟨rs,rfl,htx,hw,fun b hb=>?_⟩
   have eb:b = !decide (ja rs (o+(i:Int)) c):=by
    cases b with
    | true=>rw [decide_eq_false (hb.mp rfl)];rfl
    | false=>
     rcases Classical.em (ja rs (o+(i:Int)) c) with z|z
     . rw [decide_eq_true z];rfl
     . cases hb.mpr z
   rw [<-eb] at kk;cases b with
   | true=>rw [if_pos rfl];exact kk _ ⟨_,rfl⟩
   | false=>rw [if_neg #[1]];exact kk _ ⟨_,rfl⟩
 rw [List.nil_append];have:=q (((List.range (L+1 - o).toNat).filter fun i:Nat=>!decide (ja rs (o+(i:Int)) c)).map fun i:Nat=>o+(i:Int)) (fun t=>?_) ?_
 . unfold dI at this
   rw [YaD] at this;exact this
 . rw [Ya7]
   constructor
   . rintro⟨i,hi,rfl⟩
     obtain⟨h3,h4⟩:=Ya9.mp hi;have h5:=Yba.mp h3;have h6:¬ja rs (o+(i:Int)) c:=fun z=>by rw [decide_eq_true z] at h4;cases h4
     exact⟨#[0],#[0],h6⟩
   . rintro⟨h3,h4,h5⟩
     refine⟨(t - o).toNat,Ya9.mpr ⟨Yba.mpr #[0],?_⟩,#[0]⟩
     rw [show o+(((t - o).toNat:Nat):Int)=t by omega,decide_eq_false h5];rfl
 . rw [YaR]
   refine Ya5 (List.length_filter_le _ _) ?_
   rw [YaG];omega
theorem zmo(T:#[53]):dd_law_few_turns P w K mg base:=by
 have znZ:dd_law_comes P w K mg base:=zej T;obtain⟨f,fd,F,hm⟩:=T.d_law_few_turns;have S:FnScope ["_law_some", "_law_visits", "_law_turns", "_law_rules_here", "_law_may", "_law_one", "_law_here"] ["_law_some", "_law_visits", "_law_turns", "_law_rules_here"] (zh zcn):=#[10]
 refine⟨fun ds Q Q' E E' hQ hE h=>?_,⟨f,fd,fn3 F S (fun ds Q E h=>?_) (fun cdv A outer s H E E3 hE hr=>?_),F.binds fun _ _ _ _ _ _ us hl=>by obtain⟨_,_,_,_,rfl⟩:=J8 hl;rfl,F.kp,hm⟩⟩
 . obtain⟨a,b,d,f,e,x1,x2,x3,x4,x5,x6,x7,x8,x9,x10,x11,x14,x12,x13,h⟩:=h;exact⟨a,b,d,f,e,x1,x2,x3,x4,x5,x6,x7,x8,x9,x10,x11,x14,x12,x13,hQ _ _ h⟩
 . walk_at "l"
 refine⟨_,(zc (s_if (pw3 (jc (jp (val3 (Jl rfl T.n_isinstance rfl rfl T.n_list JD (n3 0)))) (jA (zm (jX hr.units) (new3 (znx rfl (hu3 hr) rfl T.n_sorted rfl T.n_set (za (n3 0) zb))) (n3 0) #[25])))) (ze (zp b3)) zu)
  (zc (#[9,zi,4] (new3 (jd zb)))
  (zc (zC WaZ rfl (zH (n3 0)) #[9,zg,5] (zc (#[9,ZO,6] ["_law_window"] ["_law_one"] [5] rfl (zQ (osc:=zh zcn) #[3]) rfl (zH (n3 1)) (fun H0 s H fp cl=>⟨(zg (i:=0) (show((["_law_window"]:List PySem.Str)++(["_law_one"]:List PySem.Str)).Nodup by decide) rfl #[2]),(zaA (pw3 (Ja (zm #[49] (zi4 (n3 0) zi0 (zlZ i3)) (n3 1) #[25]) (JY (zm Jr (at3 (n3 0) i3 #[4]) non3 #[25]))))),(n3 0)⟩))
   (zc (s_if (zm (jX hr.units) (zw zD rfl T.n_len zE (za (n3 6) zb)) i3 #[25]) (ze (zp b3)) zu)
   (ze (#[9,zi,4] (new3 (cat3 (n3 4) (df3 hE znZ #[7] rfl zo (za (at3 (n3 6) i3 #[4]) (za (n3 2) (za (n3 3) zb)))))))))))
  (ze (zp (cmp3 jw (zjB rfl rfl T.n_len rfl T.n_set (za (n3 4) zb)) #[34] #[25])))))),fun ds Q h=>?_⟩
 obtain⟨V,T,rs,S,rfl,hrl,htx,hw,ok,hVl,hT,hVb,nd,pw,hne,h64,hlex,hS,⟨C,hC,hcov⟩,q⟩:=h;have e1:(S.map fun x=>PyData.tuple [.int (V.getD x.toNat z4).1,.int (V.getD x.toNat z4).2.1])=(S.map fun x=>#[22]).map dK2:=by rw [YaD];rfl
 have pw1:(S.map fun x=>#[22]).Pairwise (fun a b=>lex2 a b=true):=by
  rw [WaR,Wah];intro i j hi hj hij;have h1:=Wah.mp pw i j hi hj hij;have h2:S[i]≠S[j]:=fun e=>by have:=(Wa0 nd).mp e;omega
  obtain⟨⟨a0,a1⟩,_⟩:=hS S[i] (Ya4 hi);obtain⟨⟨b0,b1⟩,_⟩:=hS S[j] (Ya4 hj);have h3:=Wah.mp hlex (S[i].toNat) (S[j].toNat) (by rw [YaR];omega) (by rw [YaR];omega) #[0]
  rw [YaI,YaI] at h3;rw [YaP,YaP,YaQ (show S[i].toNat<V.length by omega),YaQ (show S[j].toNat<V.length by omega)]
  exact h3
 have nd1:(S.map fun x=>#[22]).Nodup:=by
  rw [Waf];exact pw1.imp fun h e=>by
   rw [e] at h;have:=of_decide_eq_true h
   omega
 have hk1:∀ k∈(S.map fun x=>#[22]),okK k:=fun k hk=>by
  obtain⟨x,hx,rfl⟩:=Ya7.mp hk;obtain⟨⟨a0,a1⟩,_⟩:=hS x hx;have:=(hVb _ (jQ (d:=z4) (show x.toNat<V.length by omega))).1
  exact⟨this.1,by show(0:Int)<=_;omega,this.2.2⟩
 have hpl:=zjn (S.map fun x=>#[22])
 have hl1:(S.map fun x=>#[22]).length=S.length:=YaR _
 have hev:PyData.eqv (PyData.list ((S.map fun x=>#[22]).map dK2)) (PyData.list ((S.map fun x=>#[22]).map dK2))=true:=zaW hpl.1
 have hsh:SeqAt.shaped (PyData.list ((S.map fun x=>#[22]).map dK2))=true:=hpl.shaped #[1]
 rw [e1];walk_at "q"
 refine⟨_,rfl,nd1,hk1,#[0],fun ms z1 z2=>?_⟩
 have ems:=zfQ z1 z2 pw1;subst ems;refine⟨hsh,hsh,?_⟩;rw [if_neg (by rw [hev];decide)]
 refine hN _ ?_
 clear hN N z1 z2;have e2:((S.map fun x=>#[22]).map dK2)=S.map fun x=>dK2 #[22]:=by rw [YaD];rfl
 rw [e2];walk_at "q"
 walk_at "n";refine zP (fun ρ=>∃ (f:Bool) (t5 t6:#[44]) (may:List Int),ρ = [some (.sh false (.list (S.map fun x=>dK2 #[22]))),some #[24],#[5,T],some #[19],some (.sh f (.list (may.map .int))),t5,t6]/\may.length<=60*S.length/\∀ t∈may,t - 1∈C) (fun N hN=>?_) ?_
 . walk_at "rd"
   refine je (fun x:Int=>PyData.tuple [PyData.int (V.getD x.toNat z4).1,PyData.int (V.getD x.toNat z4).2.1]) S (fun done ρ=>∃ (f:Bool) (t5 t6:#[44]) (may:List Int),ρ = [some (.sh false (.list (S.map fun x=>PyData.tuple [PyData.int (V.getD x.toNat z4).1,PyData.int (V.getD x.toNat z4).2.1]))),some #[24],#[5,T],some #[19],some (.sh f (.list (may.map .int))),t5,t6]/\may.length<=60*done.length/\∀ t∈may,t - 1∈C) ?_ (fun ρ h=>hN ρ h) ⟨true,none,none,[],rfl,WbF _,fun t ht=>by cases ht⟩
   rintro done x rest ρ hd ⟨f,t5,t6,may,rfl,hml,hmc⟩ Z hZ
   have hx:x∈S:=by rw [hd];simp
   have hdl:done.length<S.length:=by rw [hd,YaS,List.length_cons];omega
   obtain⟨⟨x0,x1⟩,x2⟩:=hS x hx;have hvV:V.getD x.toNat z4∈V:=jQ (d:=z4) (show x.toNat<V.length by omega)
   have hcv:=hcov x hx;generalize V.getD x.toNat z4=v at x2 hvV hcv;have ndV:V.Nodup:=by
    have:=Waf.mp ok.nd;rw [WaR] at this;exact Waf.mpr (this.imp fun h e=>h (by rw [e]))
   have hb:=hVb v hvV;refine zf fun N1 hN1=>?_
   walk_at "rd"
   refine⟨sz (by rw [YaR];omega),?_⟩
   refine zcX dW dW (fun u=>decide (u=v)) (fun ρ=>∃ t,ρ = [t,some (.sh false (.tuple [.int v.1,.int v.2.1]))]) V ?_ _ _ _ _ ⟨none,rfl⟩ fun fb=>?_
   . rintro u hu ρ fa acc K ⟨t,rfl⟩ kk
     walk_at "rd zk4"
     refine⟨#[1],rfl,rfl,?_⟩
     by_cases huv:u=v
     . subst huv
       rw [decide_eq_true rfl,if_pos rfl] at kk;obtain⟨y,hy⟩:=Option.ne_none_iff_exists'.mp x2;have kk:=kk (fa&&false);unfold dW at kk;rw [hy] at kk ⊢;refine ite2 (fun _=>?_) (fun z=>absurd ((zgI _ _ _ _).mpr ⟨rfl,rfl⟩) z)
       exact ite2 (fun _=>kk _ ⟨_,rfl⟩) (fun z=>absurd rfl z)
     . rw [decide_eq_false huv,if_neg #[1]] at kk
       refine ite2 (fun e=>absurd (zcq ok.nd hu hvV ?_) huv) (fun _=>kk _ _ ⟨_,rfl⟩)
       have:=(zgI _ _ _ _).mp e;exact Prod.ext this.1 this.2
   rw [zi1 ndV hvV,List.nil_append];refine hN1 _ ?_;clear hN1 N1;refine zf fun N1 hN1=>?_
   walk_at "rd"
   refine hN1 _ ?_
   clear hN1 N1
   walk_at "rd atI0"
   refine⟨v,rfl,rfl,rfl,rfl,rs,rfl,htx,hw,(ok.one v hvV).2,hb.2.1,#[0],#[0],fun x hx=>⟨hb.2.2 x hx,ok.top v hvV x hx⟩,fun cs hcs hcl=>⟨sz (by rw [YaR,YaR];omega),hZ _ ⟨_,_,_,may++cs,by rw [Ya2],?_,fun t ht=>?_⟩⟩⟩
   . rw [YaS,YaS,List.length_singleton];omega
   . rcases Ya3.mp ht with z|z
     . exact hmc t z
     . obtain⟨y3,y4,y5⟩:=(hcs t).mp z
       have hone:=(ok.one v hvV).2;have hlo:zbd t v.2.2.2/\t<=(T:Int):=by
        cases e:v.2.2.2 with
        | none=>rw [e] at y4;exact⟨trivial,y4⟩
        | some x=>rw [e] at y4;exact⟨y4,Int.le_trans y4 (ok.top v hvV x e)⟩
       have:=hcv (t - 1).toNat #[0] (by rw [show(((t - 1).toNat:Nat):Int)+1=t by omega];exact⟨y3,hlo.1,y5⟩)
       rwa [show(((t - 1).toNat:Nat):Int)=t - 1 by omega] at this
 rintro ρ ⟨f,t5,t6,may,rfl,hml,hmc⟩
 walk_at "rd YaR"
 refine⟨may,rfl,#[0],fun n hn=>?_⟩
 have:=hn.2 (C.map fun c=>c+1) fun t ht=>Ya7.mpr ⟨t - 1,hmc t ht,#[0]⟩
 rw [YaR] at this;rw [decide_eq_true (show(n:Int)<(S.length:Int) by omega)]
 exact q
theorem zkX(T:#[53]):dd_law_few_visits P w K mg base:=by
 have znZ:dd_law_comes P w K mg base:=zej T;obtain⟨f,fd,F,hm⟩:=T.d_law_few_visits;have S:FnScope ["_law_some", "_law_visits", "_law_turns", "_law_rules_here", "_law_turn", "_law_here", "_law_window"] ["_law_some", "_law_visits", "_law_turns", "_law_rules_here"] (zh zcW):=#[10]
 refine⟨fun ds Q Q' E E' hQ hE h=>?_,⟨f,fd,fn3 F S (fun ds Q E h=>?_) (fun cdv A outer s H E E3 hE hr=>?_),F.binds fun _ _ _ _ _ _ us hl=>by obtain⟨_,_,_,_,rfl⟩:=J8 hl;rfl,F.kp,hm⟩⟩
 . obtain⟨a,b,d,f,e,x1,x2,x3,x4,x5,x6,x7,x8,x9,x10,x11,x12,x13,h⟩:=h;exact⟨a,b,d,f,e,x1,x2,x3,x4,x5,x6,x7,x8,x9,x10,x11,x12,x13,hQ _ _ h⟩
 . walk_at "l"
 refine⟨_,(zc (s_if (pw3 (jc (jp (val3 (Jl rfl T.n_isinstance rfl rfl T.n_list JD (n3 0)))) (jc (zm (jX hr.units) (new3 (zhS rfl (hu3 hr) rfl T.n_sorted rfl T.n_set (za (n3 0) zb))) (n3 0) #[25]) (jA (zm #[49] #[34] i3 #[25]))))) (ze (zp b3)) zu)
  (zc (zC WaZ rfl (zH (n3 0)) #[9,zg,4] (ze (s_if (pw3 (jc (jp (val3 (Jl rfl T.n_isinstance rfl rfl T.n_int zcR (n3 4)))) (jc (val3 (Jl rfl T.n_isinstance rfl rfl T.n_bool zed (n3 4))) (jA (jp (JM jD jD i3 (n3 4) (n3 2))))))) (ze (zp b3)) zu)))
  (zc (#[9,zi,5] i3)
  (zc (zC WaZ rfl (zH (n3 1)) #[9,zg,6] (ze (s_if (zm jN (zw zD rfl T.n_len zE (za (new3 (zY ["_law_turn"] ["_law_some"] [0] rfl (zQ (osc:=zh zcW) #[3]) rfl (zH (df3 hE znZ #[7] rfl zo (za (n3 6) (za (n3 2) (za (n3 3) zb))))) (fun H0 s H fp cl=>⟨(zg (i:=0) (show((["_law_turn"]:List PySem.Str)++(["_law_some"]:List PySem.Str)).Nodup by decide) rfl #[2]),(zaA (zm (zh1 (hu65 hr)) (n3 0) (n3 1) (by with_unfolding_all rfl))),(n3 0)⟩))) zb)) i3 #[25]) (ze (#[9,zi,5] (op3 zF (n3 5) i3))) zu)))
  (ze (zp (cmp3 jw (n3 5) #[34] #[25]))))))),fun ds Q h=>?_⟩
 obtain⟨V,T,rs,S,rfl,hrl,htx,hw,ok,hVl,hT,hVb,nd,pw,hne,h64,hS,⟨C,hC,hcov⟩,q⟩:=h;have e1:(S.map fun x=>PyData.int (x+1))=(S.map fun x=>x+1).map PyData.int:=by rw [YaD];rfl
 have nd1:(S.map fun x=>x+1).Nodup:=by
  rw [Waf,WaR];exact(Waf.mp nd).imp fun h e=>h #[0]
 have pw1:(S.map fun x=>x+1).Pairwise (· < ·):=by
  rw [WaR];refine(Wah.mpr fun i j hi hj hij=>?_)
  have h1:=Wah.mp pw i j hi hj hij;have h2:S[i]≠S[j]:=fun e=>by have:=(Wa0 nd).mp e;omega
  show S[i]+1<S[j]+1
  omega
 have sh1:SeqAt.shaped (PyData.list ((S.map fun x=>x+1).map PyData.int))=true:=(zcl (S.map fun x=>x+1)).shaped #[1]
 have ev1:PyData.eqv (PyData.list ((S.map fun x=>x+1).map PyData.int)) (PyData.list ((S.map fun x=>x+1).map PyData.int))=true:=zaW (zcl (S.map fun x=>x+1)).1
 have hS1:∀ y∈(S.map fun x=>x+1),1<=y/\y<=(T:Int)/\y - 1∈S:=fun y hy=>by
  obtain⟨x,hx,rfl⟩:=Ya7.mp hy;obtain⟨a0,a1⟩:=hS x hx;exact⟨#[0],#[0],by rw [show x+1 - 1=x by omega];exact hx⟩
 have hl1:(S.map fun x=>x+1).length=S.length:=YaR _
 have hpos:=List.length_pos_iff.mpr hne;rw [e1];clear e1 pw hne;generalize (S.map fun x=>x+1)=R at nd1 pw1 sh1 ev1 hS1 hl1
 walk_at "s"
 walk_at "rd YaR"
 refine⟨R,rfl,nd1,fun n hn=>by have:=hS1 n hn;omega,#[0],fun ms z1 z2=>?_⟩
 obtain rfl:ms=R:=PySem.W.ksm_same z1 (z2.imp fun h=>by omega) (pw1.imp fun h=>by omega)
 refine⟨sh1,sh1,?_⟩
 rw [if_neg (by rw [ev1];decide),if_neg #[0]]
 refine hN _ ?_
 clear hN N z1 z2;refine zP (fun ρ=>∃ t4:Option L3.Cl,ρ = [some (.sh false (.list (ms.map .int))),some #[24],#[5,T],some #[19],t4,none,none]) (fun N hN=>?_) ?_
 . walk_at "rd"
   refine je PyData.int ms (fun done ρ=>∃ t4:Option L3.Cl,ρ = [some (.sh false (.list (ms.map .int))),some #[24],#[5,T],some #[19],t4,none,none]) ?_ (fun ρ h=>hN ρ h) ⟨none,rfl⟩
   rintro done y rest ρ hd ⟨t4,rfl⟩ Z hZ
   have hy:=hS1 y (by rw [hd];simp)
   walk_at "rd"
   refine⟨false,by rw [if_neg #[1]],?_⟩
   rw [if_neg #[1],if_pos hy.1,if_neg (fun z=>z hy.2.1)]
   exact hZ _ ⟨_,rfl⟩
 rintro ρ ⟨t4,rfl⟩
 walk_at "q"
 walk_at "n";refine zP (fun ρ=>∃ (t4 t6:#[44]) (n:Nat),ρ = [some (.sh false (.list (ms.map .int))),some #[24],#[5,T],some #[19],t4,#[5,n],t6]/\n<S.length) (fun N hN=>?_) ?_
 . walk_at "rd"
   refine je dW V (fun done ρ=>∃ (t4 t6:#[44]) (D:List Int),ρ = [some (.sh false (.list (ms.map .int))),some #[24],#[5,T],some #[19],t4,#[5,D.length],t6]/\D.Nodup/\∀ i∈D,i∈C/\0<=i/\i<(done.length:Int)) ?_ (fun ρ ⟨t4,t6,D,e,ndD,hD⟩=>hN ρ ⟨t4,t6,D.length,e,WaG (zcp ndD fun i hi=>(hD i hi).1) hC⟩) ⟨t4,none,[],rfl,Wbk,fun i hi=>by cases hi⟩
   rintro done v rest ρ hd ⟨u4,u6,D,rfl,ndD,hD⟩ Z hZ
   have hv:v∈V:=by rw [hd];simp
   have hvi:V.getD done.length z4=v:=by rw [hd,YaP,Yae (YaY _),WbD];rfl
   have hdl:done.length<V.length:=by rw [hd,YaS,List.length_cons];omega
   have hb:=hVb v hv
   walk_at "rd"
   refine⟨v,rfl,rfl,rfl,rfl,rs,rfl,htx,hw,(ok.one v hv).2,hb.2.1,#[0],#[0],fun x hx=>⟨hb.2.2 x hx,ok.top v hv x hx⟩,fun cs hcs hcl=>⟨sz (by rw [YaR];omega),?_⟩⟩
   refine zbb PyData.int PyData.int (fun y:Int=>decide (y∈ms)) (fun ρ=>∃ t,ρ = [t,some (.sh false (.list (ms.map .int)))]) cs ?_ _ _ _ _ ⟨none,rfl⟩ ?_
   . rintro y hy ρ fa acc K ⟨t,rfl⟩ kk
     walk_at "rd"
     refine⟨rfl,sh1,?_⟩
     have ea:((ms.map PyData.int).any fun z=>PyData.eqv z (.int y))=decide (y∈ms):=by
      by_cases hm:y∈ms
      . rw [decide_eq_true hm]
        exact Wa6.mpr ⟨.int y,Ya7.mpr ⟨y,hm,rfl⟩,(zd0 y y).mpr rfl⟩
      . rw [decide_eq_false hm]
        refine List.any_eq_false.mpr fun z hz=>?_
        obtain⟨x,hx,rfl⟩:=Ya7.mp hz;exact fun e=>hm ((zd0 x y).mp e ▸ hx)
     rw [ea];cases hk:decide (y∈ms) with
     | true=>rw [hk,if_pos rfl] at kk;rw [if_pos rfl];exact kk _ ⟨_,rfl⟩
     | false=>rw [hk,if_neg #[1]] at kk;rw [if_neg #[1]];exact kk _ ⟨_,rfl⟩
   rw [List.nil_append,YaR]
   by_cases hz:0<(((cs.filter fun y=>decide (y∈ms)).length:Nat):Int)
   . rw [if_pos hz]
     obtain⟨y,hy⟩:=List.exists_mem_of_length_pos (show 0<(cs.filter fun y=>decide (y∈ms)).length by omega)
     obtain⟨y1,y2⟩:=Ya9.mp hy;have y2:=of_decide_eq_true y2;obtain⟨y3,y4,y5⟩:=(hcs y).mp y1;obtain⟨r1,r2,r3⟩:=hS1 y y2;have hin:((done.length:Nat):Int)∈C:=hcov (y - 1) r3 done.length hdl (by
      rw [hvi,show(((y - 1).toNat:Nat):Int)+1=y by omega]
      refine⟨y3,?_,y5⟩
      cases e:v.2.2.2 with
      | none=>trivial
      | some x=>rw [e] at y4;exact y4)
     refine hZ _ ⟨_,_,D++[((done.length:Nat):Int)],by rw [YaS,List.length_singleton];rfl,?_,fun i hi=>?_⟩
     . exact WaP.mpr ⟨ndD,by simp,fun a ha b hb e=>by
        rw [Ya6.mp hb] at e;have:=(hD a ha).2.2
        omega⟩
     . rw [YaS,List.length_singleton]
       rcases Ya3.mp hi with z|z
       . obtain⟨a1,a2,a3⟩:=hD i z
         exact⟨a1,a2,#[0]⟩
       . rw [Ya6.mp z]
         exact⟨hin,#[0],#[0]⟩
   . rw [if_neg hz]
     exact hZ _ ⟨_,_,D,rfl,ndD,fun i hi=>by
      obtain⟨a1,a2,a3⟩:=hD i hi;rw [YaS,List.length_singleton];exact⟨a1,a2,#[0]⟩⟩
 rintro ρ ⟨t4,t6,n,rfl,hn⟩
 walk_at "rd YaR"
 rw [decide_eq_true (show(n:Int)<(ms.length:Int) by omega)]
 exact q
theorem zmb(T:#[53]):dd_law_keeps P w K mg base:=by
 obtain⟨f,fd,F,hm⟩:=T.d_law_keeps;have S:FnScope ["_law_row", "_law_bottom", "_law_told", "_law_bounds_here", "_law_had", "_law_k", "_law_clan", "_law_below", "_law_above", "_law_apart"] ["_law_row", "_law_bottom", "_law_told", "_law_bounds_here"] (zh zco):=#[10]
 refine⟨fun ds Q Q' E E' hQ hE h=>?_,⟨f,fd,fn3 F S (fun ds Q E h=>?_) (fun cdv A outer s H E E3 hE hr=>?_),F.binds fun _ _ _ _ _ _ us hl=>by obtain⟨_,_,_,_,rfl⟩:=J8 hl;rfl,F.kp,hm⟩⟩
 . obtain⟨a,b,d,m,n,e,x1,x2,x3,x4,x5,x6,x7,x8,x9,h⟩:=h;exact⟨a,b,d,m,n,e,x1,x2,x3,x4,x5,x6,x7,x8,x9,fun r y=>hQ _ _ (h r y)⟩
 . walk_at "l"
 refine⟨_,(zc (s_if (pw3 (jc (jp (val3 (Jl rfl T.n_isinstance rfl rfl T.n_list JD (n3 0)))) (jA (zm (jX hr.units) #[34] (op3 jx (zw zD rfl T.n_len zE (za (n3 2) zb)) i3) #[25])))) (ze (zp b3)) zu)
  (zc (#[9,zk6,4] ["_law_one"] [] [] rfl (zQ (osc:=zh zco) #[3]) rfl (zH (n3 3)) (fun H0 s H fp cl=>⟨(zg (i:=0) (show((["_law_one"]:List PySem.Str)++([]:List PySem.Str)).Nodup by decide) rfl #[2]),z6,i3⟩))
  (zc (zC WaZ rfl (jh rfl T.n_range (za #[34] zb)) #[9,zg,5] (zc (s_if (pw3 (jc (jp (val3 (Jl rfl T.n_isinstance rfl rfl T.n_int zcR (at3 (n3 0) (n3 5) #[4])))) (jc (val3 (Jl rfl T.n_isinstance rfl rfl T.n_bool zed (at3 (n3 0) (n3 5) #[4]))) (jA (jp (JM jD jw i3 (at3 (n3 0) (n3 5) #[4]) (zw zD rfl T.n_len zE (za (n3 3) zb)))))))) (ze (zp b3)) zu)
   (zc (zcE (i:=4) rfl #[2] (at3 (n3 0) (n3 5) #[4]) (op3 zF (at3 (n3 4) (at3 (n3 0) (n3 5) #[4]) #[4]) i3))
   (ze (zC WaZ rfl (jh rfl T.n_range (za (zw zD rfl T.n_len zE (za (n3 3) zb)) zb)) #[9,zg,6] (zc (zbf (at3 (n3 3) (n3 6) #[4]) (zW (n:=2) rfl (zy #[9,zg,7] (zy #[9,zg,8] zV))))
    (zc (#[9,zi,9] (op3 jx (at3 (at3 (n3 2) (op3 zF (n3 5) i3) #[4]) (n3 6) #[4]) (op3 zN (at3 (n3 4) (n3 6) #[4]) (n3 1))))
    (ze (s_if (pw3 (jc (zm jN (op3 zN (n3 9) (at3 (n3 7) i3 #[4])) (op3 zN (at3 (n3 7) i3 #[4]) (n3 1)) #[25]) (jA (zm jN (op3 jx i3 (op3 zN (n3 9) (at3 (n3 8) i3 #[4]))) (op3 zN (at3 (n3 8) i3 #[4]) (n3 1)) #[25])))) (ze (zp b3)) zu)))))))))
  (ze (zp b3))))),fun ds Q h=>?_⟩
 obtain⟨row,b,rows,bs,n,rfl,h1,h8,hrl,hr61,hrn,hall,hb,hbs,hq,q⟩:=h;walk_at "s"
 walk_at "rd YaR"
 rw [if_neg #[0]]
 walk_at "u"
 walk_at "rd YaR"
 refine⟨sz #[0],?_⟩
 refine z5 dP (fun _=>.int 0) (fun ρ=>∃ t,ρ = [t]) bs ?_ _ _ _ _ ⟨none,rfl⟩ ?_
 . rintro w hw ρ fa acc K ⟨t,rfl⟩ k
   walk_at "rd"
   exact k _ ⟨_,rfl⟩
 have hz:[]++bs.map (fun _=>PyData.int 0)=(hadN 1 n (row.take 0)).map PyData.int:=by
  rw [List.nil_append,List.map_const',hbs,List.take_zero];unfold hadN;rw [List.foldl_nil,Yaz]
 rw [hz];walk_at "u"
 walk_at "rd YaR"
 refine⟨#[0],#[0],?_⟩
 rw [Int.toNat_natCast];refine jf (fun t ρ=>∃ (t5 t6 t7 t8 t9:#[44]),ρ = [some (.sh false (.list (row.map .int))),#[5,b],some (.sh false (.list (rows.map dI))),some (.sh false (.list (bs.map dP))),some (.ow true ((hadN 1 n (row.take t)).map .int)),t5,t6,t7,t8,t9]/\∀ s,s<t->∀ (k:Nat) (p:Rat2×Rat2),bs[k]?=some p->kp1 b n rows row s k p) ?_ ?_ ⟨none,none,none,none,none,rfl,fun s h=>absurd h #[0]⟩
 . rintro t ρ ht ⟨t5,t6,t7,t8,t9,rfl,hgood⟩ W hW
   have hx:=hall row[t] (Ya4 ht);have hk1:t+1<rows.length:=#[0]
   have hrt:atI (row.map PyData.int) (0+(t:Int))=some (PyData.int row[t]):=zcT ht;have hhl:=J3 1 n (row.take t);have hhl1:=J3 1 n #[51];have hg:=Zb (xs:=hadN 1 n (row.take t)) (i:=row[t]) hx.1 #[0]
   have hix:ixN ((hadN 1 n (row.take t)).map PyData.int).length row[t]=some row[t].toNat:=by rw [YaR];exact za0 hx.1 #[0]
   have htk:row.take (t+1)=row.take t++[row[t]]:=List.take_succ_eq_append_getElem ht;have hset:((hadN 1 n (row.take t)).map PyData.int).set row[t].toNat (PyData.int ((hadN 1 n (row.take t)).getD row[t].toNat 0+1))=(hadN 1 n #[51]).map PyData.int:=by
    rw [htk,zdo];unfold had1;rw [List.map_set]
   have hrr:atI (rows.map dI) (0+(t:Int)+1)=some (PyData.list (rows[t+1].map PyData.int)):=by
    rw [show(0+(t:Int)+1)=((t+1:Nat):Int) by omega];exact zbE hk1
   have hrl1:=(hrn _ (Ya4 hk1)).1;have hxr:(0<=row[t])=True:=eq_true hx.1;have hxr2:(row[t]<(n:Int))=True:=eq_true hx.2;simp only [gn3,List.set_cons_zero,List.set_cons_succ,zq,WbE];refine zf fun N' hN'=>?_
   walk_at "rd hrt YaR hbs hxr hxr2"
   refine⟨false,if_neg #[1],?_⟩
   rw [if_neg #[1]]
   refine hN' _ ?_
   clear hN' N';refine zf fun N' hN'=>?_
   walk_at "rd hrt hg hix hset"
   refine hN' _ ?_
   clear hN' N'
   walk_at "rd YaR hbs"
   refine⟨#[0],#[0],?_⟩
   rw [Int.toNat_natCast];refine jf (fun i ρ=>∃ (t6 t7 t8 t9:#[44]),ρ = [some (.sh false (.list (row.map .int))),#[5,b],some (.sh false (.list (rows.map dI))),some (.sh false (.list (bs.map dP))),some (.ow true ((hadN 1 n #[51]).map .int)),#[5,(0+(t:Int))],t6,t7,t8,t9]/\∀ (k:Nat) (p:Rat2×Rat2),k<i->bs[k]?=some p->kp1 b n rows row t k p) ?_ ?_ ⟨_,_,_,_,rfl,fun k p h=>absurd h #[0]⟩
   . rintro i ρ hi ⟨t6,t7,t8,t9,rfl,hgi⟩ W' hW'
     have hib:i<bs.length:=#[0]
     have hbi:=zm5 dP hib;have hqi:=hq _ (Ya4 hib);have hpi:bs[i]?=some bs[i]:=YaQ hib;have ha:=Zb (xs:=rows[t+1]) (i:=0+(i:Int)) #[0] #[0]
     have hb':=Zb (xs:=hadN 1 n #[51]) (i:=0+(i:Int)) #[0] #[0]
     rw [show(0+(i:Int)).toNat=i by omega] at ha hb'
     have hle:=zl7 hall (t:=t+1) #[0] hi
     have hld:=ziS (b:=b) (rows:=rows) hall ht hk1 hrl1 hi;have hxb:Bits 1000 (rows[t+1].getD i 0):=(hrn _ (Ya4 hk1)).2 _ (by rw [YaP,YaQ #[0]];exact Ya4 _)
     generalize (hadN 1 n #[51]).getD i 0=hv at hb' hle hld;generalize rows[t+1].getD i 0=rv at ha hld hxb;generalize bs[i]=p at hbi hqi hpi;simp only [gn3,List.set_cons_zero,List.set_cons_succ,zq,WbE];refine zf fun N' hN'=>?_
     walk_at "rd hbi"
     refine hN' _ ?_
     clear hN' N';refine zf fun N' hN'=>?_
     walk_at "rd hrr ha hb'"
     have hvb:Bits 64 hv:=Bits.lit (x:=hv) 64 #[0]
     have hab:Bits 1001 (rv - hv*b):=hxb.sub ((hvb.mul hb).mono #[1])
     refine⟨hvb.mulOk hb #[1],hN' _ ?_⟩
     clear hN' N';have e1:rv - hv*b = -(ldF b n rows row t i):=#[0]
     rw [e1] at hab ⊢;have bad:¬kp1 b n rows row t i p->Q true (PyData.bool false):=fun z=>q false ⟨(fun y=>by cases y),fun y=>absurd (y t ht i p hpi) z⟩
     have good:kp1 b n rows row t i p->∀ (k:Nat) (p:Rat2×Rat2),k<i+1->bs[k]?=some p->kp1 b n rows row t k p:=fun z k p' hk hp=>by
      by_cases e:k<i
      . exact hgi k p' e hp
      . obtain rfl:k=i:=#[0]
        rw [hpi] at hp;cases hp;exact z
     unfold kp1 at bad;have good:(-(ldF b n rows row t i)*p.1.2<=p.1.1*b/\ldF b n rows row t i*p.2.2<=p.2.1*b)->∀ (k:Nat) (p:Rat2×Rat2),k<i+1->bs[k]?=some p->kp1 b n rows row t k p:=good;generalize ldF b n rows row t i=ld at hab bad good ⊢;have e2:-ld*p.2.2 = -(ld*p.2.2):=Int.neg_mul _ _
     walk_at "rd"
     refine⟨hab.mulOk hqi.1.2.2 #[1],hqi.1.2.1.mulOk hb #[1],ite2 (fun h=>bad fun z=>absurd z.1 #[0]) fun h=>⟨hab.mulOk hqi.2.2.2 #[1],hqi.2.2.1.mulOk hb #[1],ite2 (fun h2=>bad fun z=>absurd z.2 #[0]) fun h2=>hW' _ ⟨_,_,_,_,rfl,good ⟨#[0],#[0]⟩⟩⟩⟩
   . rintro ρ ⟨t6,t7,t8,t9,rfl,hgi⟩
     refine hW _ ⟨_,_,_,_,_,rfl,fun s hs k p hp=>?_⟩
     by_cases e:s<t
     . exact hgood s e k p hp
     . obtain rfl:s=t:=#[0]
       exact hgi k p (by have:=(Ya8.mp hp).1;omega) hp
 . rintro ρ ⟨t5,t6,t7,t8,t9,rfl,hgood⟩
   refine hN _ ?_
   walk_at "rd"
   exact q true ⟨fun _=>hgood,fun _=>rfl⟩
theorem zhl(T:#[53]):dd_law_right P w K mg base:=by
 have zob:dd_law_windows P w K mg base:=zfu T;have zn1:dd_law_few_turns P w K mg base:=zmo T;have zn2:dd_law_few_visits P w K mg base:=zkX T;have zn3:dd_law_keeps P w K mg base:=zmb T;have zn4:dd_law_lets P w K mg base:=zeI T;obtain⟨f,fd,F,hm⟩:=T.d_law_right;have S:FnScope ["_law_found", "_law_bottom", "_law_told", "_law_bounds_here", "_law_rules_here", "_law_turns", "_law_visits"] ["_law_found", "_law_bottom", "_law_told", "_law_bounds_here", "_law_rules_here"] (zh zcj):=#[10]
 refine⟨fun ds Q Q' E E' hQ hE h=>?_,⟨f,fd,fn3 F S (fun ds Q E h=>?_) (fun cdv A outer s H E E3 hE hr=>?_),F.binds fun _ _ _ _ _ _ us hl=>by obtain⟨_,_,_,_,_,rfl⟩:=znw hl;rfl,F.kp,hm⟩⟩
 . obtain⟨a,b,d,f,e,x1,x2,x3,x4,x5,x6,x7,h⟩:=h;exact⟨a,b,d,f,e,x1,x2,x3,x4,x5,x6,x7,hQ _ _ h⟩
 . walk_at "l"
 refine⟨_,(zc (s_if (pw3 (jc (jp (val3 (Jl rfl T.n_isinstance rfl rfl T.n_tuple zmL (n3 0)))) (jA (zm (jX hr.units) #[34] i3 #[25])))) (ze (zp b3)) zu)
  (zc (#[9,zi,5] (op3 jx (zw zD rfl T.n_len zE (za (n3 2) zb)) i3))
  (zc (s_if (zm #[49] (at3 (n3 0) i3 #[4]) s3 #[25]) (zc (s_if (jp (val3 (df3 hE zn3 #[7] rfl zo (za (at3 (n3 0) i3 #[4]) (za (n3 1) (za (n3 2) (za (n3 3) zb))))))) (ze (zp b3)) zu)
   (ze (zp (zw (zg7 rfl) rfl T.n_all zly (za (new3 (zY ["_law_k"] ["_law_rules_here", "_law_found"] [4,0] rfl (zQ (osc:=zh zcj) #[3]) rfl (jh rfl T.n_range (za (n3 5) zb)) (fun H0 s H fp cl=>⟨(zg (i:=0) (show((["_law_k"]:List PySem.Str)++(["_law_rules_here", "_law_found"]:List PySem.Str)).Nodup by decide) rfl #[2]),z6,(df3 (E:=fun _ _ _=>False) (E3:=fun _=>False) (fun _ _ z _=>z) zn4 #[7] rfl JL (za (n3 1) (za (op3 zF (n3 0) i3) (za (at3 (at3 (n3 2) i3 #[4]) (n3 0) #[4]) zb))))⟩))) zb))))) zu)
  (zc (#[9,zi,6] (df3 hE zob #[7] rfl zo (za (n3 1) (za (n3 2) (za (n3 3) zb)))))
  (zc (s_if (zm #[49] (at3 (n3 0) i3 #[4]) s3 #[25]) (ze (zp (df3 hE zn1 #[7] rfl zo (za (at3 (n3 0) i3 #[4]) (za (n3 6) (za (n3 5) (za (n3 4) zb))))))) zu)
  (ze (zp (zlK (cmp3 #[49] (at3 (n3 0) i3 #[4]) s3 #[25]) (one3 (df3 hE zn2 #[7] rfl zo (za (at3 (n3 0) i3 #[4]) (za (n3 6) (za (n3 5) (za (n3 4) zb)))))))))))))),fun ds Q h=>?_⟩
 obtain⟨d,l,bs,rs,rfl,hok,hB,ho,hrl,htx,hR,⟨W,hW,hP⟩,q⟩:=h;have hm:=j6 hok;have htn:=jb fun s hs=>(hok.2.1 s hs).1
 have h60:=hok.2.2;have hql:=ZF hok (zl l);have eT:(((tot l).toNat:Nat):Int)=tot l:=#[0]
 have hw:∀ r∈rs,r.1 = "fixed"\/r.1 = "barred":=fun r hr=>(hR r hr).1
 have okV:OkVs (((tot l).toNat:Nat):Int) W.flatten:=by rw [eT];exact zeW hok hW
 have hsm:=hW.small hok hB ho;have hVc:∀ v∈W.flatten,InR v.1 (many l):=fun v hv=>by
  obtain⟨k,hk,i,_,rfl⟩:=hW.get hv;exact⟨by show(0:Int)<=(k:Int);omega,by show(k:Int)<_;omega⟩
 have hVb:=zkM hok hB ho hW;have hkp:=zjN hok hB ho hW;have hpb:=za3 hok;have hqb:=zdu hok
 rcases hP with ⟨g,h1,h2,h3,rfl⟩|⟨S,h1,h2,h3,h4,h5,rfl⟩|⟨S,h1,h2,h3,h4,h5,rfl⟩
 . obtain⟨row,hrow,hfit,hno,e⟩:=zke (n:=many l) okV hVc h1 h2 h3
   rw [e];clear h1 h2 h3 e g okV hVb hsm;have hrow1:=hrow.1;walk_at "q"
   rw [if_neg #[1]]
   walk_at "u"
   walk_at "rd YaR"
   walk_at "u"
   refine jJ fun Y Z hY hZ=>?_
   walk_at "rd atI0"
   refine hY ?_
   clear hY hZ Y Z hN;refine zf fun N1 hN1=>?_
   walk_at "rd atI1"
   refine⟨row,rfl,quoB (zl l) l,rfl,bs,rfl,many l,hm.1,hm.2,#[0],#[0],hqb,hrow.2,hpb,hB.1,ho,fun r hr=>?_⟩
   have hrt:r=true:=hr.mpr ((hkp row hrow).mpr hfit);rw [if_neg (by rw [hrt];decide)]
   refine hN1 _ ?_
   clear hN1 N1 hr hrt r
   walk_at "rd atI1"
   refine⟨#[0],#[0],sz (by rw [J1];omega),?_⟩
   refine z5 (fun i:Nat=>PyData.int (0+(i:Nat))) (fun _=>.bool true) (fun ρ=>∃ t,ρ = [t,some #[19],some (.sh false (.tuple [.str "row", .list (row.map .int)]))]) (List.range ((quoB (zl l) l).length - 1:Int).toNat) ?_ _ _ _ _ ⟨none,rfl⟩ ?_
   . rintro i hi ρ fa acc K ⟨t,rfl⟩ kk
     have hi:=Yba.mp hi;have hk:i<row.length:=#[0]
     have hat:atI (row.map PyData.int) (0+(i:Int))=some (PyData.int (row.getD i 0)):=by
      rw [WbC];refine jt ?_;rw [Ya0,YaQ hk,YaP,YaQ hk];rfl
     walk_at "rd atI1 hat"
     refine⟨rs,rfl,htx,hw,fun b hb=>?_⟩
     rw [hb.mpr (by rw [WbC];exact hno i #[0])]
     exact kk _ ⟨_,rfl⟩
   . refine⟨(List.range ((quoB (zl l) l).length - 1:Int).toNat).map fun _=>true,?_,?_⟩
     . rw [List.nil_append,<-zlJ ((List.range ((quoB (zl l) l).length - 1:Int).toNat).map fun _=>true),YaD];rfl
     . rw [show(((List.range ((quoB (zl l) l).length - 1:Int).toNat).map fun _=>true).all id)=true from Wa3.mpr fun x hx=>by obtain⟨_,_,rfl⟩:=Ya7.mp hx;rfl]
       exact q
 . walk_at "q"
   rw [if_neg #[1]]
   walk_at "u"
   walk_at "rd YaR"
   walk_at "u"
   refine jJ fun Y Z hY hZ=>?_
   walk_at "rd atI0"
   rw [if_neg #[1]]
   refine hZ ?_
   walk_at "rd"
   refine hN _ ?_
   clear hN N hY hZ Y Z;walk_at "q"
   refine⟨l,rfl,rfl,bs,rfl,hok,hB,ho,W,hW,hN _ ?_⟩
   walk_at "t"
   refine jJ fun Y Z hY hZ=>?_
   walk_at "rd atI0"
   refine hY ?_
   clear hY hZ Y Z hN
   walk_at "rd atI1"
   exact⟨W.flatten,(tot l).toNat,rs,S,rfl,rfl,#[0],rfl,hrl,htx,hw,okV,#[0],#[0],fun v hv=>by have:=hVb v hv;exact⟨this.1.1.1,this.1.1.2,this.1.2.1,this.1.2.2,this.2.1,this.2.2⟩,h1,h2,h3.1,h3.2,zmt hW,h4,h5,q⟩
 . walk_at "q"
   rw [if_neg #[1]]
   walk_at "u"
   walk_at "rd YaR"
   walk_at "u"
   refine jJ fun Y Z hY hZ=>?_
   walk_at "rd atI0"
   rw [if_neg #[1]]
   refine hZ ?_
   walk_at "rd"
   refine hN _ ?_
   clear hN N hY hZ Y Z;walk_at "q"
   refine⟨l,rfl,rfl,bs,rfl,hok,hB,ho,W,hW,hN _ ?_⟩
   walk_at "t"
   refine jJ fun Y Z hY hZ=>?_
   walk_at "rd atI0"
   rw [if_neg #[1]]
   refine hZ ?_
   walk_at "rd"
   refine hN _ ?_
   clear hY hZ Y Z hN N
   walk_at "rd atI0 atI1"
   exact⟨W.flatten,(tot l).toNat,rs,S,rfl,rfl,#[0],rfl,hrl,htx,hw,okV,#[0],#[0],fun v hv=>by have:=hVb v hv;exact⟨this.1.1.1,this.1.1.2,this.1.2.1,this.1.2.2,this.2.1,this.2.2⟩,h1,h2,h3.1,h3.2,h4,h5,q⟩
theorem zjv(T:#[53]){f:Addr}{fd:FuncData}(F:Fun K "law" "law" Jh f fd):FnOk P w K mg base (CXR P w) 6 f fd ["_law_script"] (spL K Jw):=by
 have zn9:dd_law_spells P w K mg base:=zkI T;have zn5:dd_law_quotas P w K mg base:=zle T;have znW:dd_law_bounds P w K mg base:=zlf T;have zn8:dd_law_rules P w K mg base:=zis T;have zn0:dd_law_drawn_at P w K mg base:=zcf T;have znY:dd_law_cells P w K mg base:=znz T;have zoh:dd_placed c P w K mg base:=zlV T
 have znX:dd_law_cell_at P w K mg base:=zcy T;have zn6:dd_law_ratio P w K mg base:=zgJ T;have zob:dd_law_windows P w K mg base:=zfu T;have zn7:dd_law_right P w K mg base:=zhl T;have S:FnScope ["_law_script", "_law_clans", "_law_most", "_law_spells_here", "_law_bottom", "_law_told", "_law_turns", "_law_bounds_here", "_law_rules_here", "_law_cell", "_law_clan", "_law_first", "_law_stretch", "_law_due", "_law_handed", "_law_k", "_law_found"] ["_law_script"] (zh Jh):=#[10]
 refine fn3 F S (fun ds Q E h=>?_) (fun cdv A outer s H E E3 hE hr=>?_)
 . walk_at "l"
 refine⟨_,(zc (#[9,zi,1] (op3 zF i3 (op3 zJ (df3 hE znX #[7] rfl zo (za (n3 0) (za i3 zb))) i3)))
  (zc (#[9,zi,2] i3)
  (zc (s_if (zm #[49] (op3 zJ (op3 zM (df3 hE znX #[7] rfl zo (za (n3 0) (za i3 zb))) i3) i3) i3 #[25]) (zc (#[9,zi,1] (op3 zF i3 (op3 zJ (n3 1) i3)))
   (ze (#[9,zi,2] i3))) zu)
  (zc (#[9,zi,3] (df3 hE zn9 #[7] rfl zo (za (n3 0) (za (n3 1) (za (n3 2) zb)))))
  (zc (zbf (df3 hE zn5 #[7] rfl zo (za (n3 3) zb)) (zW (n:=2) rfl (zy #[9,zg,4] (zy #[9,zg,5] zV))))
  (zc (#[9,zi,6] (op3 jx (zw zD rfl T.n_len zE (za (n3 5) zb)) i3))
  (zc (#[9,jH,7] (znt (dfR hE znW #[7] rfl zo (za (df3 hE zn0 #[7] rfl zo (za (n3 0) (za i3 zb))) #[50]))))
  (zc (#[9,zi,8] (df3 hE zn8 #[7] rfl zo (za (df3 hE znY #[7] rfl zo (za (n3 0) (za i3 zb))) (za (n3 6) #[50]))))
  (zc (#[9,zi,9] (df3 hE zn0 #[7] rfl zo (za (n3 0) (za i3 zb))))
  (zc (#[9,zi,10] (op3 zJ (op3 zM (n3 9) i3) (n3 1)))
  (zc (s_if (zm #[49] (op3 zJ (op3 zM (n3 9) i3) i3) i3 #[25]) (ze (zcE (i:=7) rfl #[2] (n3 10) (zR (za (df3 hE zn6 #[7] rfl zo (za (op3 zJ (op3 zM (n3 9) i3) i3) (za i3 zb))) (za (at3 (at3 (n3 7) (n3 10) #[4]) i3 #[4]) zb))))) zu)
  (zc (#[9,zi,11] (op3 zF i3 (op3 zJ (op3 zM (n3 9) i3) (n3 6))))
  (zc (#[9,zi,12] (new3 (zhT rfl rfl T.n_list JD rfl T.n_range zlv (za (n3 11) (za (op3 zF (zw (zcI rfl) rfl T.n_min zb3 (za (n3 6) (za (op3 zF (n3 11) (op3 zJ (op3 zM (n3 9) i3) i3)) zb))) i3) zb)))))
  (zc (s_if (zm #[49] (op3 zJ (n3 9) i3) i3 #[25]) (ze (#[9,zi,8] (new3 (cat3 (n3 8) (new3 (zY ["_law_turn"] ["_law_clan"] [10] rfl (zQ (osc:=zh Jh) #[3]) rfl (JO rfl T.n_range (za i3 (za (op3 zF (n3 6) i3) zb))) (fun H0 s H fp cl=>⟨(zg (i:=0) (show((["_law_turn"]:List PySem.Str)++(["_law_clan"]:List PySem.Str)).Nodup by decide) rfl #[2]),z6,(zR (za s3 (za (n3 0) #[50])))⟩))))))) (ze (s_if (zm #[49] (op3 zJ (n3 9) i3) i3 #[25]) (ze (#[9,zi,8] (new3 (cat3 (new3 (zY ["_law_turn"] ["_law_clan"] [10] rfl (zQ (osc:=zh Jh) #[3]) rfl (zH (n3 12)) (fun H0 s H fp cl=>⟨(zg (i:=0) (show((["_law_turn"]:List PySem.Str)++(["_law_clan"]:List PySem.Str)).Nodup by decide) rfl #[2]),z6,(zR (za s3 (za (n3 0) #[50])))⟩))) (n3 8))))) (ze (#[9,zi,8] (new3 (cat3 (n3 8) (new3 (zY ["_law_turn"] ["_law_clan", "_law_clans"] [10,1] rfl (zQ (osc:=zh Jh) #[3]) rfl (zH (n3 12)) (fun H0 s H fp cl=>⟨(zg (i:=0) (show((["_law_turn"]:List PySem.Str)++(["_law_clan", "_law_clans"]:List PySem.Str)).Nodup by decide) rfl #[2]),z6,(zR (za s3 (za (n3 0) (za (op3 zJ (op3 zF (n3 1) i3) (n3 2)) zb))))⟩))))))))))
  (zc (jG [7] (#[9,ZO,13] ["_law_window"] ["_law_clan"] [10] rfl (zQ (osc:=zh Jh) #[3]) rfl (zH (df3 hE zob #[7] rfl zo (za (n3 4) (za (n3 5) (za (n3 7) zb))))) (fun H0 s H fp cl=>⟨(zg (i:=0) (show((["_law_window"]:List PySem.Str)++(["_law_clan"]:List PySem.Str)).Nodup by decide) rfl #[2]),(zaA (pw3 (Ja (zm #[49] (at3 (n3 0) i3 #[4]) (n3 1) #[25]) (JY (zm Jr (at3 (n3 0) i3 #[4]) non3 #[25]))))),(n3 0)⟩)))
  (zc (#[9,zi,14] (new3 (jd (za (new3 (zY ["_law_one", "_law_weights_here"] [] [] rfl (zQ (osc:=zh Jh) #[3]) rfl (zH (n3 3)) (fun H0 s H fp cl=>⟨(zW (n:=2) rfl (zy (zg (i:=0) (show((["_law_one", "_law_weights_here"]:List PySem.Str)++([]:List PySem.Str)).Nodup by decide) rfl #[2]) (zy (zg (i:=1) (show((["_law_one", "_law_weights_here"]:List PySem.Str)++([]:List PySem.Str)).Nodup by decide) rfl #[2]) zV))),z6,(zR (za (n3 0) (za (new3 (zbT rfl T.n_list JD #[50])) zb)))⟩))) (za (new3 (zbT rfl T.n_list JD (za (n3 7) zb))) (za (new3 (zbT rfl T.n_list JD (za (n3 8) zb))) zb))))))
  (zc (zC WaZ rfl (jh rfl T.n_range (za (op3 zF i3 (ziF zhe rfl T.n_int zcR (za (cmp3 jw (n3 6) i3 #[25]) zb))) zb)) #[9,zg,15] (#[9,zgT,16] (dfR hE zoh #[7] rfl zo (za (at3 (n3 14) i3 #[4]) (za (at3 (n3 14) i3 #[4]) (za (at3 (n3 14) i3 #[4]) zb))))
   (r_if (pw3 (jc (jp (val3 (df3 hE zn7 #[7] rfl zo (za (n3 16) (za (n3 4) (za (n3 5) (za (n3 7) (za (n3 8) zb)))))))) (jA (zm (jX hr.units) (n3 14) (new3 (jd (za (n3 3) (za (n3 7) (za (n3 8) zb))))) #[25])))) (ze (zp b3))
   (r_if (pw3 (Ja (zm #[49] (op3 zJ (n3 9) i3) i3 #[25]) (Ja (zm jN (zw zD rfl T.n_len zE (za (n3 13) zb)) i3 #[25]) (JY (zm #[49] (at3 (n3 16) i3 #[4]) s3 #[25]))))) (ze (zp b3))
   (zjM (i:=16) rfl #[2]
   zu)))))
  (ze (zp b3))))))))))))))))))),fun ds Q h=>?_⟩
 obtain⟨ns,rfl,h63,q⟩:=h;walk_at "q"
 refine⟨ns,rfl,#[1],fun v=>⟨#[1],hN _ ?_⟩⟩
 clear hN N;obtain⟨n,hn⟩:∃ n:Nat,1+v%8=(n:Int):=⟨(1+v%8).toNat,#[0]⟩
 have hn8:1<=n/\n<=8:=#[0]
 rw [hn];clear hn v;walk_at "q"
 walk_at "n";refine zP (fun ρ=>∃ (n:Nat) (mm:Int),ρ = [some #[58],#[5,(n:Int)],#[5,mm],none,none,none,none,none,none,none,none,none,none,none,none,none,none]/\(1<=n/\n<=8)/\1<=mm/\mm<=60) (fun N hN=>?_) ?_
 . walk_at "rd"
   refine⟨ns,rfl,#[1],fun v=>⟨divQ,#[1],ite2 (fun _=>⟨#[1],hN _ ⟨(1+(n:Int)%2).toNat,40,?_,#[0],#[1],#[1]⟩⟩) fun _=>hN _ ⟨n,16,rfl,hn8,#[1],#[1]⟩⟩⟩
   rw [show(((1+(n:Int)%2).toNat:Nat):Int)=1+(n:Int)%2 by omega]
 clear hn8 n
 rintro ρ ⟨n,mm,rfl,hn8,hm1,hm60⟩
 walk_at "q"
 refine⟨ns,rfl,n,rfl,hn8.1,hn8.2,hm1,hm60,fun l hok hmn _=>hN _ ?_⟩
 clear hN N hm1 hm60;subst hmn;have hm:=j6 hok;have htn:=jb fun s hs=>(hok.2.1 s hs).1
 have ht1:=zlH hok;have h60:=hok.2.2;have hql:=ZF hok (zl l);walk_at "q"
 refine⟨l,rfl,hok,hN _ ?_⟩
 walk_at "t"
 walk_at "rd YaR"
 rw [show((quoB (zl l) l).length:Int) - 1=tot l by omega]
 walk_at "v"
 refine⟨ns,rfl,#[1],#[1],fun _ _=>⟨many l,rfl,hm.2,fun bs hB ho=>⟨zgV bs,hN _ ?_⟩⟩⟩
 walk_at "w"
 refine⟨ns,rfl,h63,#[1],#[1],fun xs hxs=>⟨xs,rfl,hxs,ht1,h60,#[0],#[0],fun rs hrs htx hrl=>hN _ ?_⟩⟩
 clear hN N hxs xs;walk_at "q"
 refine⟨ns,rfl,#[1],#[1],fun cc _=>hN _ ?_⟩
 clear hN N;have cl0:=Ybc (cc/3) (show(many l:Int)≠0 by omega)
 have cl1:=Ybd (cc/3) (show 0<(many l:Int) by omega)
 walk_at "q"
 refine⟨divP,#[0],hN _ ?_⟩
 clear hN N;generalize cc/3%(many l:Int)=cl at cl0 cl1;refine zP (fun ρ=>∃ bs:List #[39],ρ = [some #[58],#[5,(many l:Int)],#[5,mm],some (.sh true (.list (l.map dS))),#[5,zl l],some (.sh true (.list ((quoB (zl l) l).map dI))),#[5,tot l],some (.ow true (bs.map dP)),some (.sh true (.list (rs.map dRl))),#[5,cc],#[5,cl],none,none,none,none,none,none]/\okB (many l) bs/\(∀ p∈bs,okQ p.1/\okQ p.2)) (fun N hN=>?_) ?_
 . refine jJ fun Y Z hY hZ=>?_
   walk_at "rd"
   refine⟨divP,#[1],ite2 (fun z=>hY ?_) fun _=>hZ ?_⟩
   . clear hY hZ Y Z
     have hcb:cl.toNat<bs.length:=by rw [hB.1];omega
     have hpm:bs.getD cl.toNat #[68]∈bs:=jQ hcb;have hat:atI (bs.map dP) cl=some (dP (bs.getD cl.toNat #[68])):=by
      have:(bs.map dP)[cl.toNat]?=some (dP (bs.getD cl.toNat #[68])):=by
       rw [Ya0,YaQ hcb,YaP,YaQ hcb];rfl
      have:=jt this;rwa [show((cl.toNat:Nat):Int)=cl by omega] at this
     have hix:ixN (bs.map dP).length cl=some cl.toNat:=by rw [YaR];exact za0 cl0 #[0]
     have hp:=ho _ hpm;have hi:=hB.2 _ hpm;generalize bs.getD cl.toNat #[68]=p at hat hp hi;have w0:0<=cc/48%7/\cc/48%7<7:=#[0]
     walk_at "rd hat atI1 hix"
     generalize cc/48%7=ww at w0;have o1:okQ (lowQ ww 12):=zgy #[1] (Bits.lit (x:=ww) 1100 #[0]) (Bits.lit (x:=12) 1100)
     have i1:inQ (lowQ ww 12):=zei #[1] w0.1 #[0]
     have hset:(bs.map dP).set cl.toNat (.tuple [dR ww 12,.tuple [.int p.2.1,.int p.2.2]])=(bs.set cl.toNat (lowQ ww 12,p.2)).map dP:=by rw [List.map_set];rfl
     rw [hset];refine⟨divP,#[1],#[1],Bits.lit (x:=12) 9000,hN _ ⟨bs.set cl.toNat (lowQ ww 12,p.2),rfl,⟨by rw [YaN];exact hB.1,fun x hx=>?_⟩,fun x hx=>?_⟩⟩
     . rcases Wal hx with z|z
       . exact hB.2 x z
       . rw [z];exact⟨i1,hi.2⟩
     . rcases Wal hx with z|z
       . exact ho x z
       . rw [z];exact⟨o1,hp.2⟩
   . walk_at "rd"
     exact hN _ ⟨bs,rfl,hB,ho⟩
 clear hB ho bs
 rintro ρ ⟨bs,rfl,hB,ho⟩
 have fi0:=Ybc (cc/400) (show tot l≠0 by omega)
 have fi1:=Ybd (cc/400) (show 0<tot l by omega)
 walk_at "q"
 refine⟨divP,#[0],hN _ ?_⟩
 clear hN N;generalize cc/400%tot l=fi at fi0 fi1;have s0:0<=cc/6400%16/\cc/6400%16<16:=#[0]
 walk_at "q"
 have he:(if 1+fi+cc/6400%16<tot l then 1+fi+cc/6400%16 else tot l)<=tot l/\0<=(if 1+fi+cc/6400%16<tot l then 1+fi+cc/6400%16 else tot l):=by split<;>omega
 generalize (if 1+fi+cc/6400%16<tot l then 1+fi+cc/6400%16 else tot l)=en at he
 refine⟨divP,#[1],#[0],#[0],#[0],#[0],hN _ ?_⟩
 clear hN N s0;obtain⟨st,hst⟩:∃ st:Nat,(en+1 - (1+fi)).toNat=st:=⟨_,rfl⟩;rw [hst];have hst1:∀ i,i<st->1+fi+(i:Int)<=tot l:=fun i hi=>by omega
 have hst2:st<=60:=#[0]
 clear he hst;refine zP (fun ρ=>∃ rs:List Rule,ρ = [some #[58],#[5,(many l:Int)],#[5,mm],some (.sh true (.list (l.map dS))),#[5,zl l],some (.sh true (.list ((quoB (zl l) l).map dI))),#[5,tot l],some (.ow true (bs.map dP)),some (.sh true (.list (rs.map dRl))),#[5,cc],#[5,cl],#[5,1+fi],some (.sh true (.list (nums (1+fi) st))),none,none,none,none]/\okRs (tot l) (many l) rs/\txtR rs/\rs.length<=200/\(cc%3=0->∀ t,1<=t->t<=tot l->ja rs t cl)) (fun N hN=>?_) ?_
 . refine jJ fun Y Z hY hZ=>?_
   walk_at "rd"
   refine⟨#[1],ite2 (fun z=>hY ?_) fun z0=>hZ ?_⟩
   . clear hY hZ Y Z
     walk_at "rd"
     rw [show(tot l+1 - 1).toNat=(tot l).toNat by omega]
     refine⟨#[1],#[1],#[0],#[0],sz (by rw [J1];omega),?_⟩
     refine z5 (fun i:Nat=>PyData.int (1+(i:Nat))) (fun i:Nat=>dRl (("barred" : Str),1+(i:Int),cl)) (fun ρ=>∃ t,ρ = [t,#[5,cl]]) (List.range (tot l).toNat) ?_ _ _ _ _ ⟨none,rfl⟩ ?_
     . rintro i hi ρ fa acc K ⟨t,rfl⟩ kk
       walk_at "rd"
       exact kk _ ⟨_,rfl⟩
     . rw [List.nil_append,YaR,YaR,YaG]
       refine⟨sz #[0],hN _ ⟨rs++(List.range (tot l).toNat).map fun i:Nat=>(("barred" : Str),1+(i:Int),cl),by rw [Ya2,YaD];rfl,zc2 hrs fun r hr=>?_,zbO htx fun r hr=>?_,by rw [YaS,YaR,YaG];omega,fun _ t t1 t2=>?_⟩⟩
       . obtain⟨i,hi,rfl⟩:=Ya7.mp hr
         have hi:=Yba.mp hi;exact⟨.inr rfl,⟨by show(1:Int)<=1+(i:Int);omega,by show 1+(i:Int)<=tot l;omega⟩,cl0,cl1⟩
       . obtain⟨i,hi,rfl⟩:=Ya7.mp hr
         exact zcS
       . exact⟨(("barred" : Str),t,cl),Yaa _ (Ya7.mpr ⟨(t - 1).toNat,Yba.mpr #[0],by rw [show 1+(((t - 1).toNat:Nat):Int)=t by omega]⟩),rfl,⟨fun _=>rfl,fun _=>rfl⟩⟩
   . clear hY hZ Y Z
     refine jJ fun Y Z hY hZ=>?_
     walk_at "rd"
     refine⟨#[1],ite2 (fun z=>hY ?_) fun z1=>hZ ?_⟩
     . clear hY hZ Y Z
       walk_at "rd"
       refine⟨sz (by rw [J1];omega),?_⟩
       refine z5 (fun i:Nat=>PyData.int (1+fi+(i:Nat))) (fun i:Nat=>dRl (("barred" : Str),1+fi+(i:Int),cl)) (fun ρ=>∃ t,ρ = [t,#[5,cl]]) (List.range st) ?_ _ _ _ _ ⟨none,rfl⟩ ?_
       . rintro i hi ρ fa acc K ⟨t,rfl⟩ kk
         walk_at "rd"
         exact kk _ ⟨_,rfl⟩
       . rw [List.nil_append,YaR,YaR,YaG]
         refine⟨sz #[0],hN _ ⟨((List.range st).map fun i:Nat=>(("barred" : Str),1+fi+(i:Int),cl))++rs,by rw [Ya2,YaD];rfl,zc2 (fun r hr=>?_) hrs,zbO (fun r hr=>?_) htx,by rw [YaS,YaR,YaG];omega,fun y=>absurd y z0⟩⟩
         . obtain⟨i,hi,rfl⟩:=Ya7.mp hr
           have hi:=hst1 i (Yba.mp hi);exact⟨.inr rfl,⟨by show(1:Int)<=1+fi+(i:Int);omega,hi⟩,cl0,cl1⟩
         . obtain⟨i,hi,rfl⟩:=Ya7.mp hr
           exact zcS
     . clear hY hZ Y Z
       have d0:=Ybc (cl+1) (show(many l:Int)≠0 by omega)
       have d1:=Ybd (cl+1) (show 0<(many l:Int) by omega)
       walk_at "rd"
       refine⟨sz (by rw [J1];omega),?_⟩
       refine z5 (fun i:Nat=>PyData.int (1+fi+(i:Nat))) (fun i:Nat=>dRl (("fixed" : Str),1+fi+(i:Int),(cl+1)%(many l:Int))) (fun ρ=>∃ t,ρ = [t,#[5,cl],#[5,(many l:Int)]]) (List.range st) ?_ _ _ _ _ ⟨none,rfl⟩ ?_
       . rintro i hi ρ fa acc K ⟨t,rfl⟩ kk
         walk_at "rd"
         exact⟨#[0],kk _ ⟨_,rfl⟩⟩
       . rw [List.nil_append,YaR,YaR,YaG]
         refine⟨sz #[0],hN _ ⟨rs++(List.range st).map fun i:Nat=>(("fixed" : Str),1+fi+(i:Int),(cl+1)%(many l:Int)),by rw [Ya2,YaD];rfl,zc2 hrs fun r hr=>?_,zbO htx fun r hr=>?_,by rw [YaS,YaR,YaG];omega,fun y=>absurd y z0⟩⟩
         . obtain⟨i,hi,rfl⟩:=Ya7.mp hr
           have hi:=hst1 i (Yba.mp hi);exact⟨.inl rfl,⟨by show(1:Int)<=1+fi+(i:Int);omega,hi⟩,d0,d1⟩
         . obtain⟨i,hi,rfl⟩:=Ya7.mp hr
           exact zdT
 clear hrs htx hrl rs hst1 hst2 fi0 fi1
 rintro ρ ⟨rs,rfl,hrs,htx,hrl,hno⟩
 walk_at "q"
 obtain⟨W,hW⟩:=znp hok hB ho;have hsm:=hW.small hok hB ho;refine⟨l,rfl,rfl,bs,rfl,hok,hB,ho,W,hW,sz (by rw [YaR];omega),?_⟩
 refine zcX dW dW (fun v:Win=>decide (v.1=cl)&&v.2.2.2.isSome) (fun ρ=>∃ t,ρ = [t,#[5,cl]]) W.flatten ?_ _ _ _ _ ⟨none,rfl⟩ fun fd=>?_
 . rintro⟨vc,vj,vo,vl⟩ hv ρ fa acc K ⟨t,rfl⟩ kk
   by_cases e:vc=cl
   . rw [decide_eq_true (show(vc,vj,vo,vl).1=cl from e)] at kk
     cases vl with
     | none=>walk_at "rd atI0 atI3 dO";rw [if_pos e];exact kk _ _ ⟨_,rfl⟩
     | some x=>walk_at "rd atI0 atI3 dO";rw [if_pos e];exact kk _ _ ⟨_,rfl⟩
   . rw [decide_eq_false (show ¬(vc,vj,vo,vl).1=cl from e)] at kk
     walk_at "rd atI0 atI3"
     rw [if_neg e];exact kk _ _ ⟨_,rfl⟩
 rw [List.nil_append];walk_at "n";have hdu:∀ v∈W.flatten.filter (fun v:Win=>decide (v.1=cl)&&v.2.2.2.isSome),v∈W.flatten/\v.1=cl/\v.2.2.2≠none:=fun v hv=>by
  obtain⟨h1,h2⟩:=Ya9.mp hv;rw [Yak] at h2;exact⟨h1,of_decide_eq_true h2.1,fun z=>by rw [z] at h2;cases h2.2⟩
 generalize W.flatten.filter (fun v:Win=>decide (v.1=cl)&&v.2.2.2.isSome)=du at hdu
 walk_at "s"
 walk_at "rd YaR"
 refine⟨sz (by have:=hok.1.2;omega),?_⟩
 refine z5 dS dS (fun ρ=>∃ t u,ρ = [t,u]) l ?_ _ _ _ _ ⟨none,none,rfl⟩ ?_
 . rintro s hs ρ fa acc K ⟨t,u,rfl⟩ kk
   walk_at "rd"
   exact kk _ ⟨_,_,rfl⟩
 rw [List.nil_append];walk_at "n";have hph:Plain 4 #[40]:=Plain.list fun d hd=>by
  rcases Wbm.mp hd with rfl|hd
  . exact zmh l
  . rcases Wbm.mp hd with rfl|hd
    . exact zhD bs
    . rw [Ya6.mp hd];exact zmQ htx
 have hev:PyData.eqv #[40] #[40]=true:=zaW hph.1;have hsh:SeqAt.shaped #[40]=true:=hph.shaped #[1]
 clear hph;refine zP (fun ρ=>∃ t15 t16:Option L3.Cl,ρ = [some #[58],#[5,(many l:Int)],#[5,mm],some (.sh true (.list (l.map dS))),#[5,zl l],some (.sh true (.list ((quoB (zl l) l).map dI))),#[5,tot l],some (.sh true (.list (bs.map dP))),some (.sh true (.list (rs.map dRl))),#[5,cc],#[5,cl],#[5,1+fi],some (.sh true (.list (nums (1+fi) st))),some (.sh fd (.list (du.map dW))),some (.sh true #[40]),t15,t16]) (fun N hN=>?_) ?_
 . walk_at "rd"
   have hi0:0<=(if tot l<17 then(1:Int) else 0)/\(if tot l<17 then(1:Int) else 0)<=1:=by split<;>omega
   generalize (if tot l<17 then(1:Int) else 0)=ww at hi0
   refine⟨#[0],#[0],?_⟩
   refine jf (fun k ρ=>∃ t15 t16:Option L3.Cl,ρ = [some #[58],#[5,(many l:Int)],#[5,mm],some (.sh true (.list (l.map dS))),#[5,zl l],some (.sh true (.list ((quoB (zl l) l).map dI))),#[5,tot l],some (.sh true (.list (bs.map dP))),some (.sh true (.list (rs.map dRl))),#[5,cc],#[5,cl],#[5,1+fi],some (.sh true (.list (nums (1+fi) st))),some (.sh fd (.list (du.map dW))),some (.sh true #[40]),t15,t16]) ?_ (fun ρ h=>hN ρ h) ⟨none,none,rfl⟩
   rintro k ρ hk ⟨t15,t16,rfl⟩ Y hY
   simp only [gn3,List.set_cons_zero,List.set_cons_succ,zq,WbE];refine zmO (by show 16<17;decide) fun N1 hN1=>?_
   walk_at "rd atI0 atI1 atI2"
   refine⟨l,rfl,bs,rfl,rs,rfl,by have:=hB.1;omega,ho,#[0],htx,fun _ _ _ W' hW' d hd=>hN1 _ ?_,fun z=>absurd hok z,fun _ z=>absurd hB z,fun _ _ z=>absurd hrs z⟩
   clear hN1 N1;obtain rfl:=hW.uniq hW';have hdt:∃ d0 es,d=.tuple [d0,.list es]/\es.length<sizeLine:=by
    rcases hd with ⟨f,_,_,_,rfl⟩|⟨S,_,_,h64,_,_,rfl⟩|⟨S,_,_,h64,_,_,rfl⟩
    . exact⟨_,_,rfl,YaU (show _<1000 by rw [YaR,YaG];omega) #[1]⟩
    . exact⟨_,_,rfl,YaU (show _<1000 by rw [YaR];omega) #[1]⟩
    . exact⟨_,_,rfl,YaU (show _<1000 by rw [YaR];omega) #[1]⟩
   refine zdb fun Y1 Z1 hY1 hZ1=>?_
   walk_at "rd hev hsh"
   refine⟨l,rfl,rfl,bs,rfl,rs,rfl,hok,hB,ho,#[0],htx,hrs,⟨W,hW,hd⟩,hZ1 ?_⟩
   clear hY1 hZ1 Y1 Z1;refine zdb fun Y1 Z1 hY1 hZ1=>?_
   have hz:Z1:=hZ1 (by
    obtain⟨d0,es,e,hes⟩:=hdt;refine⟨d0,es,e,hes,?_⟩
    walk_at "rd"
    exact hY _ ⟨_,_,rfl⟩)
   rcases hd with ⟨f,h1,_,h3,rfl⟩|⟨S,_,_,_,_,_,rfl⟩|⟨S,_,_,_,_,_,rfl⟩
   . walk_at "rd atI0 YaR"
     refine⟨#[1],ite2 (fun z=>ite2 (fun z2=>?_) fun _=>hz) fun _=>hz⟩
     exfalso
     obtain⟨v,hv⟩:=List.exists_mem_of_length_pos (show 0<du.length by omega)
     obtain⟨v1,v2,v3⟩:=hdu v hv;obtain⟨i,hi,e⟩:=zgx v1;obtain⟨k',hk',e2⟩:=h3 i hi (by rw [e];exact v3)
     obtain⟨_,_,_,b3⟩:=h1 k' hk';rw [e2,e,v2] at b3;exact b3 (hno z _ #[0] #[0])
   . walk_at "rd atI0 YaR"
     exact⟨#[1],ite2 (fun _=>ite2 (fun _=>ite2 (fun z=>absurd z #[1]) fun _=>hz) fun _=>hz) fun _=>hz⟩
   . walk_at "rd atI0 YaR"
     exact⟨#[1],ite2 (fun _=>ite2 (fun _=>ite2 (fun z=>absurd z #[1]) fun _=>hz) fun _=>hz) fun _=>hz⟩
 rintro ρ ⟨t15,t16,rfl⟩
 walk_at "rd"
 exact q
end
theorem zhk{K:Ybf}{h:Heap}{mg:#[15]}(X:K.In h)(G:h.Ns mainGlobals mg){x:Str}{st:Stmt}{f:Addr}{od an:Option Addr}{sl:Array (Option Value)}{oc kV dc pm ct cd:Value}(a:PySem.W.nsIn K mainGlobals x=some (some (.ref f)))(l:K.lookup f=some ⟨oc,od,.func (PySem.W.fnOf x x (ZM st) (Jd st) (zh st) .none kV dc pm an cd ct),sl⟩)(c:PySem.W.codeIn K cd x=true)(k:PySem.W.keepIn K (.ref f)=true):DA K mg x st:=⟨f,_,zi9 (st:=st) l c k,Wbv X G a⟩
theorem zkG{K:Ybf}{h:Heap}{mg:#[15]}(X:K.In h)(G:h.Ns mainGlobals mg)
 {c_ClanError:Addr}
 {c_NoSpell:Addr}
 {c_NoBounds:Addr}
 {c_NoRule:Addr}
 {t_LEAST_BOUND:Addr} {od_LEAST_BOUND:Option Addr} {n_LEAST_BOUND:Nat} {sl_LEAST_BOUND:Array (Option Value)} {u0_LEAST_BOUND u1_LEAST_BOUND:Tok}
 {t_MOST_BOUND:Addr} {od_MOST_BOUND:Option Addr} {n_MOST_BOUND:Nat} {sl_MOST_BOUND:Array (Option Value)} {u0_MOST_BOUND u1_MOST_BOUND:Tok}
 {t_FIXED:Tok}
 {t_BARRED:Tok}
 {t_MOST_SPELLS:Tok}
 {t_MOST_CLANS:Tok}
 {t_MOST_TURNS:Tok}
 (D:TxtD K mg)
 (m_ClanError:PySem.W.nsIn K mainGlobals "ClanError" = some (some (.ref c_ClanError)))
 (m_NoSpell:PySem.W.nsIn K mainGlobals "NoSpell" = some (some (.ref c_NoSpell)))
 (m_NoBounds:PySem.W.nsIn K mainGlobals "NoBounds" = some (some (.ref c_NoBounds)))
 (m_NoRule:PySem.W.nsIn K mainGlobals "NoRule" = some (some (.ref c_NoRule)))
 (e_NoSpell:PySem.W.excIn K c_NoSpell [.type "ValueError", .type "Exception", .type "BaseException", .type "object"] "ValueError.__new__" = true)
 (e_NoBounds:PySem.W.excIn K c_NoBounds [.type "ValueError", .type "Exception", .type "BaseException", .type "object"] "ValueError.__new__" = true)
 (e_NoRule:PySem.W.excIn K c_NoRule [.type "ValueError", .type "Exception", .type "BaseException", .type "object"] "ValueError.__new__" = true)
 (m_LEAST_BOUND:PySem.W.nsIn K mainGlobals "LEAST_BOUND" = some (some (.ref t_LEAST_BOUND)))
 (q_LEAST_BOUND:K.lookup t_LEAST_BOUND=some ⟨.type "tuple", od_LEAST_BOUND,.seq #[.int 0 u0_LEAST_BOUND,.int 1 u1_LEAST_BOUND] n_LEAST_BOUND,sl_LEAST_BOUND⟩)
 (m_MOST_BOUND:PySem.W.nsIn K mainGlobals "MOST_BOUND" = some (some (.ref t_MOST_BOUND)))
 (q_MOST_BOUND:K.lookup t_MOST_BOUND=some ⟨.type "tuple", od_MOST_BOUND,.seq #[.int 10 u0_MOST_BOUND,.int 1 u1_MOST_BOUND] n_MOST_BOUND,sl_MOST_BOUND⟩)
 (m_FIXED:PySem.W.nsIn K mainGlobals "FIXED" = some (some (.str "fixed" t_FIXED)))
 (m_BARRED:PySem.W.nsIn K mainGlobals "BARRED" = some (some (.str "barred" t_BARRED)))
 (m_MOST_SPELLS:PySem.W.nsIn K mainGlobals "MOST_SPELLS" = some (some (.int 8 t_MOST_SPELLS)))
 (m_MOST_CLANS:PySem.W.nsIn K mainGlobals "MOST_CLANS" = some (some (.int 8 t_MOST_CLANS)))
 (m_MOST_TURNS:PySem.W.nsIn K mainGlobals "MOST_TURNS" = some (some (.int 60 t_MOST_TURNS))):∃ c:Law.Cl,Txt c K mg:=
 ⟨⟨c_ClanError,c_NoSpell,c_NoBounds,c_NoRule⟩,{
  toTxtD:=D,
  m_ClanError:=Wbv X G m_ClanError,
  m_NoSpell:=Wbv X G m_NoSpell,
  m_NoBounds:=Wbv X G m_NoBounds,
  m_NoRule:=Wbv X G m_NoRule,
  e_NoSpell:=e_NoSpell,
  e_NoBounds:=e_NoBounds,
  e_NoRule:=e_NoRule,
  m_LEAST_BOUND:=⟨_,Wbv X G m_LEAST_BOUND,_,_,_,q_LEAST_BOUND,rfl,rfl,by show(2:Nat)<=sizeLine;decide,(.cons ⟨_,rfl⟩ (.cons ⟨_,rfl⟩ .nil))⟩,
  m_MOST_BOUND:=⟨_,Wbv X G m_MOST_BOUND,_,_,_,q_MOST_BOUND,rfl,rfl,by show(2:Nat)<=sizeLine;decide,(.cons ⟨_,rfl⟩ (.cons ⟨_,rfl⟩ .nil))⟩,
  m_FIXED:=⟨_,Wbv X G m_FIXED⟩,
  m_BARRED:=⟨_,Wbv X G m_BARRED⟩,
  m_MOST_SPELLS:=⟨_,Wbv X G m_MOST_SPELLS⟩,
  m_MOST_CLANS:=⟨_,Wbv X G m_MOST_CLANS⟩,
  m_MOST_TURNS:=⟨_,Wbv X G m_MOST_TURNS⟩ }⟩
section
variable{P:Program}{w:World}{c:Law.Cl}{K:Ybf}{mg:#[15]}{base:Heap}
theorem zjE(T:#[53]){f:Addr}{fd:FuncData}(F:Fun K "law" "law" Jh f fd):FnOk P w K mg base (CXR P w) 6 f fd ["_law_script"] (spL K Jw):=zjv T F
end
theorem walk{l:PySem.W.OpenLaw}{q:Program}{loose:List Str}{XP:(Str->Option Value)->Heap->Prop}{YP:World->Heap->Prop}{d:DefRec}{K:Params->Ybf}(hn:l.most=some 63)(hdf:d.params.defaults=[])(hdn:d.name = "law")
 (hY:∀ (w:World) (h:Heap),YP w h->(K w.params).In h)
 (F:∀ (w:World) (mg:#[15]) (h:Heap),(K w.params).In h->h.Ns mainGlobals mg->∃ c,Txt c (K w.params) mg) :
 PySem.W.WalkO q loose XP YP l.row.toRowW d [] (fun f vs=>PySem.call f vs):=by
 refine L2.zka (n:=63) (k:=6) (x:="_law_script") (CX:=fun w=>CXR l.prog w) (sp:=fun w=>spL (K w.params) Jw) hn #[1] hdf ⟨rfl,#[1],#[1]⟩ hY (fun w mg fa h KX G hmg=>?_) (fun w H a ns hl _ hS=>⟨cln H,[.list (ns.map .int)],zdz H,.cons (.lst (zfY hS) (zcz ns)) .nil,ns,rfl,hl,fun v G' H' _ r=>zbG r.rd⟩) (fun w H s e s' z=>?_)
 . obtain⟨c,T⟩:=F w mg h KX G
   obtain⟨f,fd,Fn,hm⟩:=T.d_law;rw [hdn,hm] at hmg;cases hmg;have Fn':=Fn;obtain⟨oc,od,kV,doc,pm,an,cdv,ct,osl,rfl,lk,hcd⟩:=Fn.ex;exact⟨_,fun s u=>.of_eq rfl,fun base _ _=>zjE T Fn'⟩
 . obtain⟨_,_,_,_,_,hf⟩:=z
   exact hf
end Law
namespace PySem.W.Fast
theorem tw10051686176378838477:True:=trivial
theorem tw10531222699412735018:True:=trivial
theorem tw10914373880964156215:True:=trivial
theorem tw11092002104420365834:True:=trivial
theorem tw11136223642539595953:True:=trivial
theorem tw11349284154905320621:True:=trivial
theorem tw11730547588126012891:True:=trivial
theorem tw11954627291147183702:True:=trivial
theorem tw12722302467800865647:True:=trivial
theorem tw12761407612797040314:True:=trivial
theorem tw12862496949656405339:True:=trivial
theorem tw12921658193963924725:True:=trivial
theorem tw12958092661394995510:True:=trivial
theorem tw12979018225341760964:True:=trivial
theorem tw13210441890073053463:True:=trivial
theorem tw13624868331863270815:True:=trivial
theorem tw13920175592317065382:True:=trivial
theorem tw14082533172742789134:True:=trivial
theorem tw1427054732401421921:True:=trivial
theorem tw14384212169202053184:True:=trivial
theorem tw14404825887377769294:True:=trivial
theorem tw14692794063350616182:True:=trivial
theorem tw14849238579375684248:True:=trivial
theorem tw15027269346306377904:True:=trivial
theorem tw151920057530689444:True:=trivial
theorem tw15930209996712583108:True:=trivial
theorem tw17111857599963563593:True:=trivial
theorem tw17585161984026966355:True:=trivial
theorem tw1777230169467815320:True:=trivial
theorem tw17806879921743315745:True:=trivial
theorem tw17948711639669287477:True:=trivial
theorem tw18094489957479295013:True:=trivial
theorem tw2037021165246893668:True:=trivial
theorem tw2808707280942104544:True:=trivial
theorem tw378935020938333329:True:=trivial
theorem tw4426973808146262385:True:=trivial
theorem tw4661052591887529510:True:=trivial
theorem tw5020353768540031135:True:=trivial
theorem tw5737193989993677273:True:=trivial
theorem tw6129982904395157740:True:=trivial
theorem tw6562920542236305236:True:=trivial
theorem tw6952987471338244798:True:=trivial
theorem tw7290088345363745659:True:=trivial
theorem tw7307133290293178205:True:=trivial
theorem tw7590176624905323448:True:=trivial
theorem tw7661752350439942016:True:=trivial
theorem tw8139428078685043383:True:=trivial
theorem tw8485246605218776214:True:=trivial
theorem tw8543036284322929358:True:=trivial
theorem tw8711622241542099554:True:=trivial
theorem tw8852098818816720875:True:=trivial
theorem tw8984381004155752140:True:=trivial
theorem tw9103587732093819053:True:=trivial
theorem tw9142970074268880938:True:=trivial
theorem tw9452047829586727437:True:=trivial
theorem tw9647551783459277055:True:=trivial
theorem tw9697924839941710959:True:=trivial
theorem tw9877608349890467736:True:=trivial
theorem tw9930495455011284131:True:=trivial
theorem tw9950892485615088033:True:=trivial
end PySem.W.Fast
theorem PySem.W.Fast.te3102519736305789501:True:=trivial
abbrev PySem.W.Fast.tw11795179484117869006:PySem.Program:=PySem.Challenge.pw_chairclans_k30_few_turns_for_visits
theorem PySem.W.Fast.te11795179484117869006:PySem.Challenge.pw_chairclans_k30_few_turns_for_visits=PySem.W.Fast.tw11795179484117869006:=rfl
open PySem PySem.W PyProof.Rows
set_option maxRecDepth 100000 in
set_option maxHeartbeats 0 in
theorem PySem.Challenge.cw_chairclans_k30_few_turns_for_visits_holds : PySem.Challenge.rw_chairclans_k30_few_turns_for_visits.Holds := by
 w_on;o_law;k_head;(case hw=>w_witness2)
 k_fill
 refine Law.walk (l:=PySem.Challenge.rw_chairclans_k30_few_turns_for_visits) rfl rfl rfl (fun w h Y=>PySem.W.kIn_of Y) ?F
 case F=>
  intro w mg h KX G;refine' Law.zkG KX G ?D ?m_ClanError ?m_NoSpell ?m_NoBounds ?m_NoRule ?e_NoSpell ?e_NoBounds ?e_NoRule ?m_LEAST_BOUND ?q_LEAST_BOUND ?m_MOST_BOUND ?q_MOST_BOUND ?m_FIXED ?m_BARRED ?m_MOST_SPELLS ?m_MOST_CLANS ?m_MOST_TURNS
  (case D=>constructor<;>first|(refine' Law.zhk KX G ?a ?l ?c ?k;(case a|l|c|k=>k_is))|exact PySem.W.mg_none_of KX G (by k_is))
  (case m_ClanError|m_NoSpell|m_NoBounds|m_NoRule=>k_is)
  (case e_NoSpell|e_NoBounds|e_NoRule=>k_exc)
  (case m_LEAST_BOUND|q_LEAST_BOUND|m_MOST_BOUND|q_MOST_BOUND|m_FIXED|m_BARRED|m_MOST_SPELLS|m_MOST_CLANS|m_MOST_TURNS=>k_is)