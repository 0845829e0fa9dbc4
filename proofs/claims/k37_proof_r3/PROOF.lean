import PyProof.Rows.All
import Wide.All
import OpenK.AllK
import Wide.FinOn
import Lean
import PyProof.EqAt
import PyProof.EqKinds
import PyProof.TupleCall
import PySem.Challenge.RW_chairclans_k37_mended_against_all_rows
set_option backward.eqns.nonrecursive false
set_option maxHeartbeats 4000000
set_option compiler.extract_closed false
set_option Elab.async false
set_option linter.all false
set_option maxRecDepth 100000
def mI:=Lean.mkIdent
local macro_rules|`(tactic|lia)=>`(tactic|first|lia -abstractProof|omega +splitDisjunctions|(dsimp only;omega +splitDisjunctions))
local macro_rules | `(tactic| omega)=>`(tactic| first | lia +abstractProof | omega +splitDisjunctions | (dsimp only;omega +splitDisjunctions))
local macro_rules|`(#[0])=>`(by omega)|`(#[94])=>`(by lia)|`(#[1])=>`(by decide)|`(#[2])=>`(by walk_at "o")|`(#[3])=>`(by decide +kernel)
noncomputable section
theorem Hd{p:Prop}(h:∀ G:Prop,(p->G)->G):p:=h p id
set_option bootstrap.genMatcherCode false
open PySem.PyData renaming int→Xa,list→XB,tuple→XI,eqv→XL,str→YU
open False renaming elim→Xj
open Exists renaming imp→Xl
open Sum renaming inl→Xn,inr→Uj
open And renaming imp→Xr
open PySem.Value renaming ref→Xs,int→W0,none→Uc,type→Ud,isStrOf→Ui,isInt→Uu,bool→UC,str→UE
open PySem.SeqAt renaming shaped→Xt,canLay_of_shaped→Wb,EqAt→UB
open PySem.Builtin.Int renaming intBits→XE
open True renaming intro→XF
open ForInStep renaming yield→XS
open PySem.Builtin.Slice renaming slicePlaces→XV,sliceAdjust→YL
open PySem.Obj renaming mapSeq→Yd
open PySem.Str renaming ofString→Yi
open PySem.NameKind renaming free→Yl,cell→YY
open Array renaming length_toList→Yt,toList→WK
open Decidable renaming not_not→YV
open Prod renaming fst→Wo,snd→WZ
open Or renaming inr→Wv,inl→Uq
open PySem.F renaming slot_dict_keyiterator_next→Waa,plainAttrs_list→Waj,plainAttrs_dict→Wak,slot_dict_iter→Wap,entry_dict_get→Waq,entry_min_loop→War,plain_min_loop→Was,slot_dict_get→Wau,args_dict_keyiterator_next_1→XW,entry_dict_keyiterator_next→X0,slot_dict_itemiterator_iter→X1,args_tuple_add_2→YR,entry_tuple_add→YW,slot_list_index→Y1,args_dict_get_2→Y2,args_dict_get_3→Y3,slot_dict_items→Y4,slot_tuple_add→Y9,type_dict_get→Wi,plain_min→WF,entry_min→WG,kind_min→WV,slot_int_rmul→W5
open List renaming take_append_of_le_length→Wab,nodup_iff_pairwise_ne→Wae,mem_or_eq_of_mem_set→Wag,eq_of_mem_replicate→Wai,length_eq_zero_iff→Wal,take_of_length_le→Wao,getElem?_eq_none→Wav,length_filter_le→Waw,filter_append→WaG,nodup_append→WaK,foldl_append→WaN,pairwise_map→WaO,take_add_one→WaQ,getElem_inj→WaU,length_take→WaW,all_eq_true→WaX,nodup_range→WaZ,not_mem_nil→Wa0,of_mem_zip→Wa4,range_succ→Wa6,sum_append→Wa7,map_const'→Wa9,nodup_nil→Wbb,mem_cons→Wbe,map_set→Wbu,map_nil→Wbx,mem_append_right→Yaa,getElem?_append_left→Yab,getElem?_set_ne→Yac,getElem?_replicate→Yad,getElem?_append_right→Yae,append_assoc→Yag,mem_of_getElem?→Yah,mem_append_left→Yai,getElem_of_mem→Yam,append_nil→Yao,getElem?_set_self→Yas,map_congr_left→Yat,map_replicate→Yaz,nodup_cons→YaB,map_map→YaD,length_range→YaG,take_length→YaH,length_set→YaN,length_pos_of_mem→YaO,getD_eq_getElem?_getD→YaP,getElem?_eq_getElem→YaQ,length_map→YaR,length_append→YaS,mem_cons_of_mem→YaT,mem_cons_self→YaV,size_toArray→YaZ,getElem?_map→Ya0,map_cons→Ya1,map_append→Ya2,mem_append→Ya3,getElem_mem→Ya4,mem_singleton→Ya6,mem_map→Ya7,getElem?_eq_some_iff→Ya8,mem_filter→Ya9,mem_range→Yba,length_replicate→Ybb,replicate→Xb,nil_append→Xc,range→Xe,cons_append→Xf,set_cons_zero→Xg,set_cons_succ→Xh,length_singleton→Xm,foldl_cons→Xo,length_cons→Xq,getElem?_cons_succ→Xx,length_nil→Xz,sum_cons→XA,getElem?_cons_zero→XC,all_cons→XH,foldl_nil→XJ,find?_cons→XM,take_succ_eq_append_getElem→X6,length→Ya,map→Yg,getElem?_range→Yy,mem_filterMap→YD,lookup_append→YE,map_singleton→YI,all_nil→YJ,drop_eq_getElem_cons→YM,pairwise_iff_getElem→YN,idxOf_lt_length_iff→YT,Pairwise→YX,take_nil→YZ,drop_nil→Y0,range_succ_eq_map→Wa,pairwise_lt_range→Wc,length_zip→Wk,filterMap_cons→Wr,replicate_succ→Ws,any_cons→Ww,zip_cons_cons→Wy,find?_eq_none→WA,sum_singleton→WB,getElem_range→WC,any_eq_false→WD,find?_isSome→WJ,length_drop→WR,lookup_cons→WS,drop_length→WT,mem_flatten→WW,any_eq_true→WY,lookup→W1,map_id→W9,take_zero→Ub,foldl→Ue,any_map→Ur
open Int renaming gcd_pos_of_ne_zero_right→Wac,toNat_of_nonneg→WaC,gcd_dvd_right→WaM,gcd_dvd_left→WaY,ediv_nonneg→Wa5,dvd_trans→Wbg,le_trans→Wbq,zero_add→Wbr,le_refl→Wbz,ediv_mul_cancel→Yaw,natAbs_ediv_le_natAbs→Yay,le_of_mul_le_mul_right→YaF,mul_nonneg→YaK,emod_nonneg→Ybc,emod_lt_of_pos→Ybd,mul_le_mul_of_nonneg_right→Ybe,toNat_natCast→Xi,gcd→Xp,toNat→XX,mul_nonpos_of_nonpos_of_nonneg→X2,le_of_lt→YF,mul_ediv_assoc→YG,eq_ofNat_of_zero_le→Y6,gcd_natCast_natCast→Y7,ediv_le_self→Y8,ediv_le_of_le_mul→Wj,le_of_eq→Wl,mul_assoc→Wz,dvd_mul_right→WH,dvd_refl→WN,mul_comm→WO,natCast_succ→WX,mul_pos→W7,add_mul→W8,le_of_dvd→Um,neg_mul→UA
open PyProof.Rows renaming callWith_type1→Wad,slot_tuple_getitem→Yb
open Classical renaming byContradiction→Waf,em→Wbt,propDecidable→X3
open Option renaming isSome_iff_exists→Wah,isSome_map→WaL,isSome_some→XG,isSome_none→XQ,map_some→XT,join_some→XY,join_none→XZ,map_none→X4,none→Uv
open PySem.W renaming cellsFrom_some→Wam,mg_of→Wbm,Frag→Ybf,nsIn→Xu,findIn→Xv,excIn→Xw,keepIn→XD,kla_obj→XN,fnOf→XO,instObj→XR,codeIn→XU,hasDictIn→X8,emptyDict→X9,tabObj→Ye,CodeHd→Yf,plainGet→Yj,hideAll→Yo,hideAll_get→Yq,plainOver→YO,tabIn→Y5,takerIn→We,makesIn→Wg,lookIn→Wq,of_hideAll→Wt,callWith_K→Wu,envX→WM,handedIn→WQ,kla_eval→WU,OpenLaw→W6,kla_fn→Ua,WalkO→Ul,isFn→Up
open PySem.Heap renaming get?_update_other→Wan,get?_update_self→Wat,size_push→Wba,get?_push_size→Yan,get?_push_of_some→YaW,lt_size→YaX,SameBut→Yh,ExtBut→Uz
open PySem.Calls renaming evalArgs_plain→Wax,spliced_cons→WaD,callWith_builtin→X7,Name_function_global→YB,spliced_nil→YQ
open PySem.Around renaming under_plainId→Waz,frames_deeper→Wp
open PySem renaming mem_of_lookup→WaA,Str→Xk,Value→Yv,Within→Wd,Heap→Wm,Addr→Wn,Shared→WL,DictEntry→W4,call→Uf,Expr→Ug,World→Uw,Stmt→UD,Obj→UF
open PySem.Heap.SameBut renaming update→WaB
open Nat renaming lt_of_le_of_lt→WaE,lt_succ_self→WaV,le_of_lt→Wbn,ne_of_gt→Wbo,lt_trans→Wbp,sub_self→Wbs,zero_le→Wby,ne_of_lt→Yaf,lt_irrefl→Yap,lt_of_lt_of_le→YaU,le_refl→YaY,le_trans→Ya5,pow_le_pow_right→Yk,reduceAdd→Ym,reduceSub→Yn,sub_lt_sub_left→Yx,not_lt_zero→Yz,succ_le_of_lt→YS,le_antisymm→Wh,pos_of_ne_zero→Wx,lt_succ_of_lt→WE,lt_trichotomy→WI,min_self→WP,le_succ→W3,not_lt→Uh,le_of_eq→Uo,gcd_comm→Us,lt_or_ge→Ut,log2_lt→Ux
open Bool renaming false_eq_true→WaF,true_eq_false→WaI,not_eq_true'→WaJ,not_false→Wbc,and_self→Wbf,false_or→Wbh,true_and→Wbi,not_true→Wbj,and_true→Wbk,or_false→Wbl,true_or→Wbv,or_true→Wbw,and_eq_true→Yak,false_ne_true→Yal,eq_iff_iff→Yr
open PySem.PyData.tuple renaming injEq→WaH
open PySem.PassesOwn renaming leaving→WaP
open Option.some renaming injEq→WaR,inj→Wa3
open PySem.PyData.bool renaming injEq→WaS
open PySem.PyData.list renaming injEq→WaT
open PySem.PyData.int renaming injEq→Wa1
open PySem.PyData.str renaming injEq→Wa2
open List.cons renaming injEq→Wa8
open PySem.Paired renaming length→Wbd,snoc→Uy
open Ne renaming symm→WbA
namespace Lake
section
namespace L2
open PySem PySem.Spec PyProof.Rows
abbrev Key:=Sum Int Str
noncomputable def zan:Key->Value->Bool
 | .inl k,v=>Uu k v
 | .inr x,v=>Ui x v
noncomputable def keyH(w:World):Key->Int
 | .inl k=>hashInt k
 | .inr x=>hashStr w x
theorem j9:∀ {k:Key} {v:Value},zan k v=true->(∃ i t,k=Xn i/\v=W0 i t)\/(∃ x t,k=Uj x/\v=UE x t)
 | .inl i, v, h => by
  obtain⟨t,e⟩:=Value.isInt_shape h;exact .inl ⟨i,t,rfl,e⟩
 | .inr x, v, h => by
  obtain⟨t,e⟩:=Value.isStrOf_shape h;exact .inr ⟨x,t,rfl,e⟩
theorem zmb(i)(t):zan (.inl i) (.int i t)=true:=by simp [zan,Uu]
theorem zjK(x)(t):zan (.inr x) (.str x t)=true:=by simp [zan,Ui]
theorem ziP(a b):decide ((Xn a:Key)=Xn b)=(a==b):=by
 grind
theorem zly(a b):decide ((Uj a:Key)=Uj b)=decide (a=b):=by
 grind
theorem zjo(a)(b):decide ((Xn a:Key)=Uj b)=false:=decide_eq_false (fun q=>nomatch q)
theorem zls(a)(b):decide ((Uj a:Key)=Xn b)=false:=decide_eq_false (fun q=>nomatch q)
noncomputable def ji(prog)(w):PySem.KeyKind prog w Key where
 is:=zan
 hash:=keyH w
 inj:=fun v a b ha hb=>by
  rcases j9 ha with ⟨i,t,rfl,rfl⟩|⟨x,t,rfl,rfl⟩
  . rcases j9 hb with ⟨j,u,rfl,e⟩|⟨y,u,rfl,e⟩
    . injection e with e1 _;rw [e1]
    . exact nomatch e
  . rcases j9 hb with ⟨j,u,rfl,e⟩|⟨y,u,rfl,e⟩
    . exact nomatch e
    . injection e with e1 _;rw [e1]
 byValue:=fun k v h=>by
  rcases j9 h with ⟨i,t,rfl,rfl⟩|⟨x,t,rfl,rfl⟩<;>rfl
 pyHash:=fun hv h=>by
  rcases j9 hv with ⟨i,t,rfl,rfl⟩|⟨x,t,rfl,rfl⟩
  . exact wpAny_pyHash_int h
  . exact wpAny_pyHash_str h
 eqBool:=fun hu hv h=>by
  rcases j9 hu with ⟨i,t,rfl,rfl⟩|⟨x,t,rfl,rfl⟩
  . rcases j9 hv with ⟨j,u,rfl,rfl⟩|⟨y,u,rfl,rfl⟩
    . rw [ziP] at h;exact wpAny_eqBool_int h
    . rw [zjo] at h;exact UB.int_str i t y u _ _ _ _ h
  . rcases j9 hv with ⟨j,u,rfl,rfl⟩|⟨y,u,rfl,rfl⟩
    . rw [zls] at h;exact UB.str_int x t j u _ _ _ _ h
    . rw [zly] at h;exact wpAny_eqBool_str h
 «strs»:=fun k x t v h=>by
  rcases j9 h with ⟨i,u,rfl,e⟩|⟨y,u,rfl,e⟩
  . exact nomatch e
  . injection e with e1 _
    subst e1;cases v<;>rfl
theorem zmj(prog)(w)(i)(t):(ji prog w).is (.inl i) (.int i t)=true:=zmb i t
theorem zjw(prog)(w)(x)(t):(ji prog w).is (.inr x) (.str x t)=true:=zjK x t
inductive V where
 | non|bl (b:Bool)|int (i:Int)|str (x:Str)|byt (b:Array UInt8)|flt (b:UInt64)|ref (a:Addr)|ty (n:String)
 deriving DecidableEq
def RelV:V->Value->Prop
 | .non,u=>u=Uc
 | .bl b,u=>u=UC b
 | .int i,u=>∃ t,u=W0 i t
 | .str x,u=>∃ t,u=UE x t
 | .byt b,u=>∃ t,u=Value.bytes b t
 | .flt b,u=>∃ t,u=Value.float b t
 | .ref a,u=>u=Xs a
 | .ty n,u=>u=Ud n
abbrev Vals:List V->List Value->Prop:=Paired RelV
theorem Vals.length(r:Vals xs us):xs.length=us.length:=Wbd r
theorem Vals.get:∀ {xs:List V} {us:List Value} {i:Nat} {x:V},Vals xs us->xs[i]?=some x->∃ u,us[i]?=some u/\RelV x u:=by
 intro _ _ i x h;induction h generalizing i with
 | nil=>intro e;simp at e
 | cons r _ f=>
  intro e;cases i with
  | zero=>simp_all
  | succ i=>exact f (by simpa using e)
theorem Vals.set{x:V}{u:Value}(r:RelV x u):∀ {xs:List V} {us:List Value} (i:Nat),Vals xs us->Vals (xs.set i x) (us.set i u)
 | _,_,_,.nil=>.nil
 | _,_,0,.cons _ t=>.cons r t
 | _,_,i+1,.cons q t=>.cons q (Vals.set r i t)
theorem Vals.append:∀ {xs ys:List V} {us ws:List Value},Vals xs us->Vals ys ws->Vals (xs++ys) (us++ws):=by
 intro _ _ _ _ h s;induction h with
 | nil=>exact s
 | cons r _ f=>exact .cons r f
theorem Vals.take:∀ {xs:List V} {us:List Value} (n:Nat),Vals xs us->Vals (xs.take n) (us.take n)
 | _,_,0,_=>.nil
 | _,_,_+1,.nil=>.nil
 | _,_,n+1,.cons r t=>.cons r (Vals.take n t)
theorem Vals.drop:∀ {xs:List V} {us:List Value} (n:Nat),Vals xs us->Vals (xs.drop n) (us.drop n)
 | _,_,0,r=>r
 | _,_,_+1,.nil=>.nil
 | _,_,n+1,.cons _ t=>Vals.drop n t
def RelO:Option V->Option Value->Prop
 | some v,some u=>RelV v u
 | none,none=>True
 | _,_=>False
def KV{κ : Type}:List (κ×V)->List (κ×Value)->Prop:=Paired fun(p:κ×V) (q:κ×Value)=>p.1=q.1/\RelV p.2 q.2
noncomputable def kV:Key->V
 | .inl i=>.int i
 | .inr x=>.str x
inductive HO where
 | lst (xs:List V)
 | tup (xs:List V)
 | dK (kvs:List (Key×V))|dT (kvs:List (List Key×V))
 | set (S:Int->Bool) (n:Nat)
 | ins (C dx:Addr) (fs:List (Str×V))
 | own (x:Addr)
 | xd (fs:List (Str×V))
 | met (f x:Addr)
 | rng (lo hi:Int)
 | frz (o:Obj) (u:HO)
 | tbl (ps:Array Value)
 | ext (φ : Heap->Prop)
abbrev Hp:=Addr->Option HO
variable{a b e:Addr}{H:Hp}{t' i:Nat}{E:Value->Shared->Prop}{Q:Unit->Shared->Prop}{ch:List Addr}{o:HO}{g':Array GenState}{h h':Heap}{P:Program}{w:World}{d':Drawn}{A:Around}{u:Value}{M:Model}
noncomputable def upd(H:Hp)(a:Addr)(o:HO):Hp:=fun b=>if b=a then some o else H b
theorem zf:upd H a o a=some o:=by unfold upd;simp_all
theorem zc(h:b≠a):upd H a o b=H b:=by unfold upd;rw [if_neg h]
theorem Z7{u:HO}:upd (upd H a o) a u=upd H a u:=by
 unfold upd;simp_all
theorem zma{u:HO}(h:H a=some o)(h':H b=some u)(d:o≠u):a≠b:=by
 grind
theorem je(h:H a=some o)(h':H b=none):a≠b:=by
 grind
section
variable(P:Program)(w:World)
def zQ(H:Hp)(h:Heap)(a:Addr):HO->Prop
 | .lst xs=>xs.length<=sizeLine/\∃ (its:List Value) (n:Nat),Vals xs its/\h.get? a=some { cls:=.type "list", data:=.seq its.toArray n }
 | .tup xs=>xs.length<=sizeLine/\∃ its:List Value,Vals xs its/\IsTup h a its.toArray
 | .dK kvs=>kvs.length<=sizeLine/\(a==sysModules)=false/\∃ vs,KV kvs vs/\h.DictOf (ji P w) a vs
 | .dT kvs => kvs.length <= sizeLine /\ (a == sysModules) = false /\ ∃ xs : List (List Key × Addr × Value),
  Paired (fun(p:List Key×V) (q:List Key×Addr×Value)=>p.1=q.1/\H q.2.1=some (.tup (p.1.map kV))/\RelV p.2 q.2.2) kvs xs/\
  ∃ o es ep,h.get? a=some o/\o.ExactDict/\o.data=.dict es ep/\es.toList=xs.map (entryOfKey (tupleKind (ji P w)))/\(xs.map (·.1)).Nodup
 | .set S n=>h.SetOf (intKind P w) a S n
 | .ins C dx fs => H dx = some (.own a) /\ fs.length <= 1000 /\ dx ≠ a /\ h.get? a = some (XR C dx) /\
  ∃ mA,h.Ns1 dx mA/\(∀ f,RelO (fs.lookup f) (mA f))/\Wd mA (fs.map (·.1))
 | .own _=>∃ o,h.get? a=some o
 | .xd fs=>∃ mA,h.Ns1 a mA/\∀ f,RelO (fs.lookup f) (mA f)
 | .rng lo hi=>∃ t u v,h.get? a=some { cls:=.type "range", data:=.fields #[.int lo t,.int hi u,.int 1 v] }
 | .frz o u=>h.get? a=some o/\zQ H h a u
 | .tbl ps=>h.get? a=some { cls:=.none,data:=.fields ps }
 | .met f x=>h.get? a=some (PySem.W.methodObj (.ref f) (.ref x))
 | .ext φ=>φ h/\(∃ o,h.get? a=some o)/\∀ h1 h2:Heap,φ h1->(∀ o,h1.get? a=some o->h2.get? a=some o)->φ h2
def HOk(H:Hp)(h:Heap):Prop:=∀ a o,H a=some o->zQ P w H h a o
end
section
variable{H':Hp}
theorem zQ.lt(x:zQ P w H h a o):a<h.objs.size:=by
 cases o with
 | lst c=>obtain⟨_,_,_,_,e⟩:=x;exact YaX e
 | tup c=>obtain⟨_,_,_,p⟩:=x;exact p.lt
 | dK b=>obtain⟨_,_,_,_,o,_,_,e,_⟩:=x;exact YaX e
 | dT b=>obtain⟨_,_,_,_,o,_,_,e,_⟩:=x;exact YaX e
 | set S n=>obtain⟨o,_,_,_,e,_⟩:=x;exact YaX e
 | ins C m g=>obtain⟨_,_,_,e,_⟩:=x;exact YaX e
 | own y=>obtain⟨_,e⟩:=x;exact YaX e
 | xd g=>obtain⟨_,⟨_,_,_,e,_⟩,_⟩:=x;exact YaX e
 | rng l i=>obtain⟨_,_,_,e⟩:=x;exact YaX e
 | frz q u=>obtain⟨e,_⟩:=x;exact YaX e
 | tbl j=>exact YaX (x)
 | met f y=>exact YaX (x)
 | ext φ=>obtain⟨_,⟨_,e⟩,_⟩:=x;exact YaX e
theorem Paired.mapP{α β : Type}{F G:α->β->Prop}:∀ {l₁ : List α} {l₂ : List β},Paired F l₁ l₂->(∀ a b,F a b->G a b)->Paired G l₁ l₂:=by
 intro _ _ h f;induction h with
 | nil=>exact .nil
 | cons r _ g=>exact .cons (f _ _ r) g
theorem zQ.stay(x:zQ P w H h a o)(k:∀ b u,(b=a\/H b=some (.own a))->h.get? b=some u->h'.get? b=some u)
 (F:∀ b,H b=some (.own a)->H' b=some (.own a)) (K:∀ b xs,H b=some (.tup xs)->H' b=some (.tup xs)):zQ P w H' h' a o:=by
 induction o with
 | lst xs=>obtain⟨z,l,n,r,e⟩:=x;exact⟨z,l,n,r,k _ _ (.inl rfl) e⟩
 | tup xs=>obtain⟨z,l,r,g,e,c⟩:=x;exact⟨z,l,r,g,k _ _ (.inl rfl) e,c⟩
 | dK A=>obtain⟨z,y,G,r,g,j,i,e,c⟩:=x;exact⟨z,y,G,r,g,j,i,k _ _ (.inl rfl) e,c⟩
 | dT A=>
  obtain⟨z,y,xs,r,g,j,i,e,c⟩:=x;exact⟨z,y,xs,Paired.mapP r fun p q z=>⟨z.1,K _ _ z.2.1,z.2.2⟩,g,j,i,k _ _ (.inl rfl) e,c⟩
 | set S n=>obtain⟨g,j,i,t,e,c⟩:=x;exact⟨g,j,i,t,k _ _ (.inl rfl) e,c⟩
 | ins C Q L=>
  obtain⟨d,z,J,e,m,⟨s,j,i,E,c⟩,r⟩:=x;exact⟨F _ d,z,J,k _ _ (.inl rfl) e,m,⟨s,j,i,k _ _ (.inr d) E,c⟩,r⟩
 | own y=>obtain⟨g,e⟩:=x;exact⟨g,k _ _ (.inl rfl) e⟩
 | xd L=>obtain⟨m,⟨s,j,i,e,c⟩,r⟩:=x;exact⟨m,⟨s,j,i,k _ _ (.inl rfl) e,c⟩,r⟩
 | rng O M=>obtain⟨t,u,v,e⟩:=x;exact⟨t,u,v,k _ _ (.inl rfl) e⟩
 | frz g u I=>obtain⟨e,q⟩:=x;exact⟨k _ _ (.inl rfl) e,I q⟩
 | tbl N=>
  have e:=x;exact k a _ (.inl rfl) e
 | met f y=>
  have e:=x;exact k a _ (.inl rfl) e
 | ext φ=>obtain⟨p,⟨o,e⟩,B⟩:=x;exact⟨B _ _ p fun o q=>k _ _ (.inl rfl) q,⟨o,k _ _ (.inl rfl) e⟩,B⟩
theorem HOk.lt(x:HOk P w H h)(e:H a=some o):a<h.objs.size:=(x a o e).lt
theorem HOk.fresh(x:HOk P w H h)(e:h.objs.size<=a):H a=none:=by
 cases q:H a with
 | none=>rfl
 | some u=>exact absurd (YaU (x.lt q) e) (Yap _)
theorem HOk.kept(x:HOk P w H h)(k:∀ b u,h.get? b=some u->h'.get? b=some u):HOk P w H h':=fun a o e=>
 (x a o e).stay (fun b u _ q=>k b u q) (fun _ q=>q) fun _ _ q=>q
theorem HOk.laid(x:HOk P w H h)(k:∀ b u,h.get? b=some u->h'.get? b=some u)(l:h.objs.size<=a)(j:zQ P w (upd H a o) h' a o):HOk P w (upd H a o) h':=fun b u e=>by
 have g:=x.fresh l
 by_cases i:b=a
 . subst i;rw [zf] at e;grind
 . rw [zc i] at e
   exact(x b u e).stay (fun c v _ q=>k c v q) (fun c q=>by rw [zc (je q g)];exact q) fun c m q=>by rw [zc (je q g)];exact q
end
def Rd(H:Hp)(a:Addr)(u:HO):Prop:=H a=some u\/∃ o,H a=some (.frz o u)
theorem Rd.ok{u:HO}(r:Rd H a u)(x:HOk P w H h):zQ P w H h a u:=by
 rcases r with r|⟨o,r⟩
 . exact x a u r
 . obtain⟨_,q⟩:=x a _ r
   exact q
def Mut:Option HO->Prop
 | some (.lst _)=>True
 | some (.dK _)=>True
 | some (.dT _)=>True
 | some (.set _ _)=>True
 | some (.ins _ _ _)=>True
 | some (.ext _)=>True
 | _=>False
section
variable{x:Addr}{o':HO}
theorem HOk.write(o:HOk P w H h)(i:Mut (H x))(B:e=x\/H e=some (.own x))(k:∀ b u,b≠e->h.get? b=some u->h'.get? b=some u)(l:∃ u,h'.get? e=some u)
 (p:zQ P w (upd H x o') h' x o'):HOk P w (upd H x o') h':=fun b u q=>by
 have g:∀ c y,H c=some (.own y)->c≠x:=fun c y r z=>by subst z;rw [r] at i;exact i
 have a:∀ c j,H c=some (.tup j)->c≠x:=fun c j r z=>by subst z;rw [r] at i;exact i
 by_cases n:b=x
 . subst n;rw [zf] at q;grind
 . rw [zc n] at q
   by_cases s:b=e
   . have m:H b=some (.own x):=by
      grind
     rw [q] at m;cases m;obtain⟨v,A⟩:=l;exact⟨v,#[94]⟩
   . refine(o b u q).stay (fun c v C r=>k c v ?_ r) (fun c r=>by rw [zc (g c b r)];exact r) fun c j r=>by rw [zc (a c j r)];exact r
     grind
end
set_option genInjectivity false
set_option genSizeOf false
structure Un(fs ex:List Addr)(H H':Hp)(h h':Heap):Prop where
 keep:∀ b o,h.get? b=some o->H b=none->b∉fs->b∉ex->h'.get? b=some o
 slot:∀ b o,h.get? b=some o->H b=none->b∈fs->b∉ex->∃ sl,h'.get? b=some { o with slots:=sl }
 free:∀ b o,h.get? b=some o->H b=none->b∉ex->H' b=none
 there:∀ b o,h.get? b=some o->b∉ex->∃ o',h'.get? b=some o'
 tups:∀ b xs,H b=some (.tup xs)->H' b=some (.tup xs)
 frzs:∀ b o u,H b=some (.frz o u)->H' b=some (.frz o u)
 tbls:∀ b ps,H b=some (.tbl ps)->∃ more,H' b=some (.tbl (ps++more))
section
variable{fs fs' ex ex':List Addr}{H1 H2:Hp}{h1 h2:Heap}{x:Addr}
theorem Un.any(u:Un fs ex H H1 h h1)(q:h.get? b=some ob)(n:H b=none)(a:b∉ex):∃ sl,h1.get? b=some { ob with slots:=sl }:=by
 by_cases c:b∈fs
 . exact u.slot b ob q n c a
 . exact⟨_,u.keep b ob q n c a⟩
theorem Un.kept(k:∀ b u,h.get? b=some u->h'.get? b=some u):Un fs ex H H h h':=
 ⟨fun b a q _ _ _=>k b a q,fun b a q _ _ _=>⟨_,k b a q⟩,fun _ _ _ n _=>n,fun b a q _=>⟨a,k b a q⟩,fun _ _ q=>q,fun _ _ _ q=>q,fun _ c q=>⟨#[],by simp_all⟩⟩
theorem Un.refl:Un fs ex H H h h:=Un.kept fun _ _ q=>q
theorem Un.laid(k:∀ b u,h.get? b=some u->h'.get? b=some u)(e:h.objs.size<=a)(c:H a=none):Un fs ex H (upd H a o) h h' where
 keep:=fun b u q _ _ _=>k b u q
 slot:=fun b u q _ _ _=>⟨_,k b u q⟩
 free:=fun b u q n _=>by rw [zc (Yaf (YaU (YaX q) e))];exact n
 there:=fun b u q _=>⟨u,k b u q⟩
 tups:=fun b g q=>by rw [zc (je q c)];exact q
 frzs:=fun b u g q=>by rw [zc (je q c)];exact q
 tbls:=fun b i q=>⟨#[],by rw [zc (je q c),q];simp⟩
theorem Un.write(c:Mut (H x))(m:e=x\/H e=some (.own x))(k:∀ b u,b≠e->h.get? b=some u->h'.get? b=some u)(l:∃ u,h'.get? e=some u):Un fs ex H (upd H x o) h h':=by
 have i:∀ b,H b=none->b≠x:=fun b n z=>by subst z;rw [n] at c;exact c
 have g:∀ b,H b=none->b≠e:=fun b n z=>by
  simp_all
 have a:∀ b u,H b=some u->¬Mut (some u)->b≠x:=fun b u q r z=>by simp_all
 refine⟨fun b u q n _ _=>k b u (g b n) q,fun b u q n _ _=>⟨_,k b u (g b n) q⟩,fun b u q n _=>by rw [zc (i b n)];exact n,fun b u q _=>?_,
  fun b j q=>by rw [zc (a b _ q fun z=>z)];exact q,fun b u j q=>by rw [zc (a b _ q fun z=>z)];exact q,fun b p q=>⟨#[],by rw [zc (a b _ q fun z=>z),q];simp⟩⟩
 grind
end
noncomputable def trk(h:Heap)(H:Hp):List Addr:=(Xe h.objs.size).filter fun a=>(H a).isSome
noncomputable def hidT(h:Heap)(H:Hp):Heap:=Yo h (trk h H)
theorem zh0(h)(H):(hidT h H).objs.size=h.objs.size:=PySem.W.hideAll_size _ _
theorem zmN{o:Obj}(e:h.get? b=some o)(n:H b=none):(hidT h H).get? b=some o:=
 Yq _ e fun a=>by
  have q:=(Ya9.mp a).2
  simp_all
theorem znk{o:Obj}(e:(hidT h H).get? b=some o):h.get? b=some o/\H b=none:=by
 have a:=Wt _ e;refine⟨a,?_⟩;cases q:H b with
 | none=>rfl
 | some x=>
  have c:b∈trk h H:=Ya9.mpr ⟨Yba.mpr (YaX a),by simp [q]⟩
  have z:(hidT h H).get? b=none:=PySem.W.hideAll_none _ c
  grind
noncomputable def zi9(g h:Heap)(L:Addr):List (Addr×Obj):=(Xe h.objs.size).filterMap fun a=>if a=L\/(g.get? a).isSome=true then none else(h.get? a).map fun o=>(a,o)
noncomputable def rest(g h:Heap)(L d:Addr):List (Addr×Obj):=(zi9 g h L).filter fun p=>decide (p.1≠d)
structure Mod(K:Ybf)(mg:Str->Option Value)(base:Heap):Prop where
 kin:K.In base
 glob:base.Ns mainGlobals mg
 blt:∃ mb,base.Ns builtinsNs mb/\∀ x:Str,x≠"__name__"->mb x=bootBuiltins x
 nolimit:base.NoLimit
structure Cx where
 prog:Program
 w:World
 K:Ybf
 mg:Str->Option Value
 base:Heap
 A:Around
 N:List Str
 s₀ : Shared
 H₀ : Hp
 env:Env
 outer:List Env
 stack:List Env
 ex:List Addr
 fn:Str->Bool
 calm:Bool
 pn:List (Addr×Obj)
 xe:Value->Shared->Prop
noncomputable def frs(l:List Env):List Addr:=l.filterMap (·.frame)
noncomputable abbrev Cx.fs(X:Cx):List Addr:=frs X.outer
def Vis(sc:Scope)(x:Str):Prop:=sc.names.lookup x=some .local\/sc.names.lookup x=some .cell\/sc.names.lookup x=some .free
def Loc(sc:Scope)(x:Str):Prop:=sc.names.lookup x=some .local\/sc.names.lookup x=some .cell
def Look(env:Env)(h:Heap)(m:Str->Option Value)(x:Str)(u:Value):Prop:=
 (env.kindOf x=some .local/\m x=some u)\/((env.kindOf x=some .cell\/env.kindOf x=some .free)/\∃ c,env.cells.lookup x=some c/\h.IsCell c (some u))
structure Cx.Ok(X:Cx):Prop where
 mod:Mod X.K X.mg X.base
 kind:X.env.scope.kind=.function
 glob:X.env.globals=mainGlobals
 blt:X.env.builtins=builtinsNs
 above:X.s₀.heap.objs.size<=X.env.locals
 inj:∀ x y c,X.env.cells.lookup x=some c->X.env.cells.lookup y=some c->x=y
 has:∀ x,(X.env.kindOf x=some .cell\/X.env.kindOf x=some .free)->∃ c,X.env.cells.lookup x=some c
 cab:∀ x c,X.fn x=true->X.env.cells.lookup x=some c->X.s₀.heap.objs.size<=c
 hd:X.calm=true->X.A.handled=none
 frames:X.A.frames=some X.stack
 stk:X.stack=X.outer\/(X.stack=X.env::X.outer/\X.env.frame=some X.env.locals)
 exf:∀ b∈X.ex,b≠X.env.locals/\∀ x c,X.env.cells.lookup x=some c->c≠b
 bs:∀ b o,X.base.get? b=some o->X.s₀.heap.get? b=some o/\X.H₀ b=none
 bsz:X.base.objs.size<=X.s₀.heap.objs.size
 noex:∀ b o,X.base.get? b=some o->b∉X.ex
 exfs:∀ b∈X.ex,b∉X.fs
 funs:X.s₀.heap.FunFrames X.base X.outer
 frf:∀ b∈X.fs,X.H₀ b=none
structure Inv(X:Cx)(pins:List (Addr×Obj))(σ : List (Option V))(H:Hp)(s:Shared):Prop where
 ok:X.Ok
 os:s.os=X.s₀.os
 bare:AllBare s.gens
 base:Un X.fs X.ex X.H₀ H X.s₀.heap s.heap
 loc:∃ m,s.heap.Ns X.env.locals m/\∀ (i:Nat) (x:Str) (v:V),X.N[i]?=some x->σ[i]?=some (some v)->Vis X.env.scope x->∃ u,RelV v u/\Look X.env s.heap m x u
 cell:∀ x c,X.env.cells.lookup x=some c->∃ v,s.heap.IsCell c v
 free:H X.env.locals=none
 freeC:∀ x c,X.env.cells.lookup x=some c->H c=none
 pin:∀ p∈X.pn++pins,s.heap.get? p.1=some p.2/\H p.1=none/\p.1≠X.env.locals/\p.1∉X.fs/\∀ v,p.2.data≠.cell v
 hok:HOk X.prog X.w H s.heap
 len:σ.length=X.N.length
section
variable{X:Cx}{pins:List (Addr×Obj)}{σ: List (Option V)}{H':Hp}{s:Shared}
theorem Cx.Ok.nofr(a:X.Ok){o:Obj}(e:X.base.get? b=some o):b∉X.fs:=fun c=>by
 have:=(a.funs.mem c).1
 grind
theorem Inv.bs(I:Inv X pins σ H s):∀ b o,X.base.get? b=some o->s.heap.get? b=some o/\H b=none:=fun b o e=>
 ⟨I.base.keep b o (I.ok.bs b o e).1 (I.ok.bs b o e).2 (I.ok.nofr e) (I.ok.noex b o e),I.base.free b o (I.ok.bs b o e).1 (I.ok.bs b o e).2 (I.ok.noex b o e)⟩
theorem Inv.bk(I:Inv X pins σ H s):∀ b o,X.base.get? b=some o->s.heap.get? b=some o:=fun b o e=>(I.bs b o e).1
theorem Inv.mod(I:Inv X pins σ H s):Mod X.K X.mg X.base:=I.ok.mod
theorem Inv.kIn(I:Inv X pins σ H s):X.K.In s.heap:=I.ok.mod.kin.keeps I.bk
theorem Inv.nolimit(I:Inv X pins σ H s):s.heap.NoLimit:=I.ok.mod.nolimit.keeps I.bk
theorem Inv.fr(I:Inv X pins σ H s):∃ m,Fr X.base X.env.locals s.heap m:=
 let ⟨m,hn,_⟩:=I.loc
 ⟨m,hn,I.bk,Ya5 I.ok.bsz I.ok.above⟩
theorem Inv.lt(I:Inv X pins σ H s):X.env.locals<s.heap.objs.size:=let ⟨_,hn,_⟩:=I.loc;hn.lt
theorem Inv.sz(I:Inv X pins σ H s):X.s₀.heap.objs.size<=s.heap.objs.size:=Ya5 I.ok.above (Wbn I.lt)
theorem Inv.nofs(I:Inv X pins σ H s)(h:s.heap.objs.size<=a):a∉X.fs:=fun c=>by
 obtain⟨_,o,b,_⟩:=I.ok.funs.mem c;exact absurd (YaU (YaX b) (Ya5 I.sz h)) (Yap _)
theorem Inv.cne(I:Inv X pins σ H s):∀ x c,X.env.cells.lookup x=some c->c≠X.env.locals:=fun x c e z=>by
 obtain⟨v,o,g,i⟩:=I.cell x c e;obtain⟨m,⟨h,l,j,b,a,_⟩,_⟩:=I.loc
 grind
theorem Inv.funs(I:Inv X pins σ H s):s.heap.FunFrames X.base X.outer:=by
 have c:∀ (l:List Env),(∀ b∈frs l,b∈X.fs)->X.s₀.heap.FunFrames X.base l->s.heap.FunFrames X.base l:=by
  intro l
  induction l with
  | nil=>intro _ _;trivial
  | cons u r q=>
   intro i n;obtain⟨j,⟨L,o,h,p,m,w⟩,v⟩:=n;have g:=i L (by unfold frs;simp_all)
   obtain⟨y,e⟩:=I.base.slot L o m (I.ok.frf L g) g fun z=>I.ok.exfs L z g
   exact⟨j,⟨L,_,h,p,e,w⟩,q (fun b a=>i b (by unfold frs;rw [Wr,h];exact YaT _ a)) v⟩
 exact c _ (fun _ a=>a) I.ok.funs
theorem Inv.stack(I:Inv X pins σ H s):s.heap.FunFrames X.base X.stack:=by
 rcases I.ok.stk with e|⟨e,a⟩
 . rw [e];exact I.funs
 . rw [e]
   obtain⟨m,b,_⟩:=I.loc;refine .cons (by rw [I.ok.kind];decide) a b ?_ I.funs
   exact Heap.get?_none_of_le (Ya5 I.ok.bsz I.ok.above)
theorem Inv.stkSub(I:Inv X pins σ H s):∀ b∈frs X.stack,b∈X.env.locals::X.fs:=fun b a=>by
 rcases I.ok.stk with e|⟨e,c⟩
 . grind
 . rw [e] at a
   unfold frs at a;rw [Wr,c] at a;exact a
theorem Inv.stkFree(I:Inv X pins σ H s):∀ b∈frs X.stack,H b=none:=fun b a=>by
 rcases Wbe.mp (I.stkSub b a) with e|a
 . rw [e];exact I.free
 . obtain⟨_,o,c,_⟩:=I.ok.funs.mem a
   exact I.base.free b o c (I.ok.frf b a) fun z=>I.ok.exfs b z a
theorem Inv.step(I:Inv X pins σ H s)
 (h:∀ b∈ch,(b∈X.ex\/X.s₀.heap.objs.size<=b)/\b≠X.env.locals/\(∀ x c,X.env.cells.lookup x=some c->c≠b)/\∀ p∈X.pn++pins,p.1≠b)
 (y:∀ b o,b≠X.env.locals->b∉X.fs->b∉ch->s.heap.get? b=some o->H b=none->h'.get? b=some o)
 (C:∀ b o,b≠X.env.locals->b∈X.fs->b∉ch->s.heap.get? b=some o->H b=none->∃ sl,h'.get? b=some { o with slots:=sl }) (g:∀ b o,b∉ch->s.heap.get? b=some o->H b=none->H' b=none)
 (F:∀ b o,b∉ch->s.heap.get? b=some o->∃ o',h'.get? b=some o')
 (M:∀ b xs,H b=some (.tup xs)->H' b=some (.tup xs)) (K:∀ b o u,H b=some (.frz o u)->H' b=some (.frz o u)) (L:∀ b ps,H b=some (.tbl ps)->∃ more,H' b=some (.tbl (ps++more)))
 (ns:∀ m,s.heap.Ns X.env.locals m->h'.Ns X.env.locals m) (O:HOk X.prog X.w H' h') (Y:AllBare g') :
 Inv X pins σ H' { s with heap:=h',gens:=g',drawn:=d',toks:=t' }:=by
 have J:∀ b o,X.s₀.heap.get? b=some o->b≠X.env.locals:=fun b o e=>Yaf (YaU (YaX e) I.ok.above)
 have B:∀ b o,X.s₀.heap.get? b=some o->b∉X.ex->b∉ch:=fun b o e a E=>by
  rcases(h b E).1 with z|z
  . exact a z
  . exact absurd (YaU (YaX e) z) (Yap _)
 have w:∀ x c,X.env.cells.lookup x=some c->∀ v,s.heap.IsCell c v->h'.IsCell c v:=fun x c e v ⟨o,G,Q⟩=>by
  have j:=fun z=>(h c z).2.2.1 x c e rfl
  by_cases U:c∈X.fs
  . obtain⟨sl,q⟩:=C c o (I.cne x c e) U j G (I.freeC x c e)
    exact⟨_,q,Q⟩
  . exact⟨o,y c o (I.cne x c e) U j G (I.freeC x c e),Q⟩
 refine⟨I.ok,I.os,Y,⟨fun b o e n E a=>?_,fun b o e n E a=>?_,fun b o e n a=>?_,fun b o e a=>?_,fun b xs e=>M b xs (I.base.tups b xs e),fun b o xs e=>K b o xs (I.base.frzs b o xs e),fun b ps e=>?_⟩,?_,fun x c e=>?_,?_,fun x c e=>?_,fun p R=>?_,O,I.len⟩
 . exact y b o (J b o e) E (B b o e a) (I.base.keep b o e n E a) (I.base.free b o e n a)
 . obtain⟨sl,A⟩:=I.base.slot b o e n E a
   obtain⟨P,N⟩:=C b _ (J b o e) E (B b o e a) A (I.base.free b o e n a);exact⟨P,N⟩
 . obtain⟨o',A⟩:=I.base.there b o e a
   exact g b o' (B b o e a) A (I.base.free b o e n a)
 . obtain⟨o',A⟩:=I.base.there b o e a
   exact F b o' (B b o e a) A
 . obtain⟨m1,A⟩:=I.base.tbls b ps e
   obtain⟨m2,N⟩:=L b _ A;exact⟨m1++m2,by simp_all⟩
 . obtain⟨m,Z,hl⟩:=I.loc
   refine⟨m,ns m Z,fun i x v A N W=>?_⟩
   obtain⟨u,r,l⟩:=hl i x v A N W;refine⟨u,r,?_⟩
   rcases l with l|⟨k,c,e,z⟩
   . exact .inl l
   . exact .inr ⟨k,c,e,w x c e _ z⟩
 . obtain⟨v,z⟩:=I.cell x c e
   exact⟨v,w x c e v z⟩
 . obtain⟨m,⟨o,_,_,G,_⟩,_⟩:=I.loc
   exact g _ o (fun z=>(h _ z).2.1 rfl) G I.free
 . obtain⟨v,o,G,Q⟩:=I.cell x c e
   exact g c o (fun z=>(h c z).2.2.1 x c e rfl) G (I.freeC x c e)
 . obtain⟨e,n,T,S,d⟩:=I.pin p R
   have j:=fun z=>(h p.1 z).2.2.2 p R rfl
   exact⟨y p.1 p.2 T S j e n,g p.1 p.2 j e n,T,S,d⟩
theorem Inv.un(I:Inv X pins σ H s)(u:Un X.fs [] H H' s.heap h')(i:HOk X.prog X.w H' h'):Inv X pins σ H' { s with heap:=h',toks:=t' }:=by
 obtain⟨m,⟨o,A,y,j,r⟩,_⟩:=id I.loc;obtain⟨B,p⟩:=u.any j I.free (by simp)
 exact I.step (ch:=[]) (fun _ z=>nomatch z) (fun b o _ g _ e n=>u.keep b o e n g (by simp)) (fun b o _ g _ e n=>u.slot b o e n g (by simp)) (fun b o _ e n=>u.free b o e n (by simp)) (fun b o _ e=>u.there b o e (by simp)) u.tups u.frzs u.tbls (fun v l=>by
  obtain⟨w,c,h,a,q⟩:=l;rw [j] at a;cases a;exact⟨_,c,h,p,q⟩) i I.bare
theorem Inv.call(I:Inv X pins σ H s)(u:Un (frs X.stack) ch H H' s.heap h')(q:HOk X.prog X.w H' h')(y:AllBare g')
 (h:∀ b∈ch,(b∈X.ex\/X.s₀.heap.objs.size<=b)/\b≠X.env.locals/\(∀ x c,X.env.cells.lookup x=some c->c≠b)/\∀ p∈X.pn++pins,p.1≠b) :
 Inv X pins σ H' { s with heap:=h',gens:=g',drawn:=d',toks:=t' }:=by
 obtain⟨m,⟨o,G,F,v,r⟩,_⟩:=id I.loc;obtain⟨J,l⟩:=u.any v I.free fun z=>(h _ z).2.1 rfl
 exact I.step h (fun b o l A a e n=>u.keep b o e n (fun z=>(Wbe.mp (I.stkSub b z)).elim l A) a) (fun b o _ _ a e n=>u.any e n a) (fun b o a e n=>u.free b o e n a) (fun b o a e=>u.there b o e a) u.tups u.frzs u.tbls (fun C w=>by
  obtain⟨E,i,j,g,B⟩:=w;rw [v] at g;cases g;exact⟨_,i,j,l,B⟩) q y
theorem Inv.turned(I:Inv X pins σ H s)(k:∀ b o,b≠it->s.heap.get? b=some o->h'.get? b=some o)(E:H it=none)(g:it≠X.env.locals)
 (j:it∈X.ex\/X.s₀.heap.objs.size<=it) (B:∀ x c,X.env.cells.lookup x=some c->c≠it) (A:∀ p∈X.pn++pins,p.1≠it):Inv X pins σ H { s with heap:=h',toks:=t' }:=by
 refine I.step (ch:=[it]) (fun b y=>?_) (fun b o _ _ a e _=>k b o (fun z=>a (by simp [z])) e) (fun b o _ _ a e _=>⟨_,k b o (fun z=>a (by simp [z])) e⟩) (fun _ _ _ _ n=>n)
  (fun b o a e=>⟨o,k b o (fun z=>a (by simp [z])) e⟩) (fun _ _ e=>e) (fun _ _ _ e=>e) (fun b C e=>⟨#[],by simp_all⟩) (fun m i=>?_) (fun b u e=>?_) I.bare
 . have e:=by simpa using y
   subst e;exact⟨j,g,B,A⟩
 . obtain⟨o,w,l,h,r⟩:=i
   exact⟨o,w,l,k _ o (WbA g) h,r⟩
 . refine(I.hok b u e).stay (fun c v a q=>k c v ?_ q) (fun _ q=>q) fun _ _ q=>q
   lia
theorem Inv.tok(I:Inv X pins σ H s)(t):Inv X pins σ H { s with toks:=t }:=I.un Un.refl I.hok
theorem Inv.kept{t':Nat}(I:Inv X pins σ H s)(k:∀ b u,s.heap.get? b=some u->h'.get? b=some u):Inv X pins σ H { s with heap:=h',toks:=t' }:=I.un (Un.kept k) (I.hok.kept k)
theorem Inv.laid{a:Addr}{o:HO}{t':Nat}(I:Inv X pins σ H s)(k:∀ b u,s.heap.get? b=some u->h'.get? b=some u)(c:s.heap.objs.size<=a)(e:zQ X.prog X.w (upd H a o) h' a o) :
 Inv X pins σ (upd H a o) { s with heap:=h',toks:=t' }:=I.un (Un.laid k c (I.hok.fresh c)) (I.hok.laid k c e)
theorem Inv.write{x e:Addr}{o:HO}{t':Nat}(I:Inv X pins σ H s)(h:Mut (H x))(g:e=x\/H e=some (.own x))(k:∀ b u,b≠e->s.heap.get? b=some u->h'.get? b=some u)(a:∃ u,h'.get? e=some u)
 (c:zQ X.prog X.w (upd H x o) h' x o):Inv X pins σ (upd H x o) { s with heap:=h',toks:=t' }:=I.un (Un.write h g k a) (I.hok.write h g k a c)
theorem Inv.pins_of{pins':List (Addr×Obj)}(I:Inv X pins σ H s)(h:∀ p∈pins',s.heap.get? p.1=some p.2/\H p.1=none/\p.1≠X.env.locals/\p.1∉X.fs/\∀ v,p.2.data≠.cell v):Inv X pins' σ H s:=
 ⟨I.ok,I.os,I.bare,I.base,I.loc,I.cell,I.free,I.freeC,fun p a=>(Ya3.mp a).elim (fun z=>I.pin p (Yai _ z)) (h p),I.hok,I.len⟩
theorem zgO{N:List Str}(c:N.Nodup)(a:N[i]?=some x)(b:N[j]?=some x):i=j:=by
 obtain⟨l,e⟩:=Ya8.mp a;obtain⟨h,g⟩:=Ya8.mp b;exact(WaU c).mp (e.trans g.symm)
theorem zff(I:Inv X pins σ H s)(hN:X.N.Nodup)(R:X.N[i]?=some x)(B:Loc X.env.scope x)(r:RelV v u)
 (h:∀ s',Inv X pins (σ.set i (some v)) H s'->(∃ a,Yh a s.heap s'.heap/\(a=X.env.locals\/X.env.cells.lookup x=some a))->Q () s') (hf:X.fn x=true\/X.env.scope.names.lookup x=some .local:=by first|exact .inl rfl|exact .inr rfl|assumption):wpAny M A (storeName X.env x u) Q E s:=by
 obtain⟨m,hn,hl⟩:=id I.loc;have U:(X.env.scope.kind==.class||(X.env.scope.kind==.module&&X.env.locals != X.env.globals))=false:=by rw [I.ok.kind];rfl
 have G:i < σ.length:=by rw [I.len];exact(Ya8.mp R).1
 have L:=I.cne;have w:∀ {a:Addr} {P:Heap},(∃ o,s.heap.get? a=some o/\H a=none)->Yh a s.heap P->HOk X.prog X.w H P:=fun {a P} ha g b ob e=>by
  obtain⟨_,_,Z⟩:=ha;refine(I.hok b ob e).stay (fun c w' C q=>(g.2 c ?_).trans q) (fun _ q=>q) fun _ _ q=>q
  grind
 rcases B with O|O
 . refine wpAny_storeName_local O hn (fun P a0 g=>?_) U
   obtain⟨oL,_,_,a1,_⟩:=id hn;refine h _ ⟨I.ok,I.os,I.bare,⟨fun b o e n J B=>?_,fun b o e n J B=>?_,I.base.free,fun b o e B=>?_,I.base.tups,I.base.frzs,I.base.tbls⟩,⟨_,a0,fun j y v' l F e3=>?_⟩,fun y c e=>?_,I.free,I.freeC,fun p hp=>?_,w ⟨oL,a1,I.free⟩ g,by simpa using I.len⟩ ⟨_,g,.inl rfl⟩
   . exact(g.2 b (Yaf (YaU (YaX e) I.ok.above))).trans (I.base.keep b o e n J B)
   . obtain⟨sl,l⟩:=I.base.slot b o e n J B
     exact⟨sl,(g.2 b (Yaf (YaU (YaX e) I.ok.above))).trans l⟩
   . obtain⟨o',l⟩:=I.base.there b o e B
     exact⟨o',(g.2 b (Yaf (YaU (YaX e) I.ok.above))).trans l⟩
   . by_cases N:j=i
     . subst N
       rw [R] at l;cases l;rw [Yas G] at F;cases F;exact⟨u,r,.inl ⟨O,by simp⟩⟩
     . rw [Yac (WbA N)] at F
       obtain⟨u',r',q⟩:=hl j y v' l F e3;refine⟨u',r',?_⟩
       rcases q with ⟨k,e⟩|⟨k,c,e,z⟩
       . refine .inl ⟨k,?_⟩
         have:y≠x:=fun e=>N (zgO hN l (e ▸ R))
         simp [this,e]
       . exact .inr ⟨k,c,e,z.sameBut g (L y c e)⟩
   . obtain⟨w',z⟩:=I.cell y c e
     exact⟨w',z.sameBut g (L y c e)⟩
   . obtain⟨e,n,Y,nf,d⟩:=I.pin p hp
     exact⟨(g.2 p.1 Y).trans e,n,Y,nf,d⟩
 . have K:X.fn x=true:=by
    grind
   obtain⟨c,C⟩:=I.ok.has x (.inl O);obtain⟨w',z⟩:=I.cell x c C;refine wpAny_storeName_cell I.ok.kind O C z (fun P S g=>?_)
   obtain⟨oc,a2,a3⟩:=id z;refine h { s with heap:=P } ⟨I.ok,I.os,I.bare,⟨fun b o e n J B=>?_,fun b o e n J B=>?_,I.base.free,fun b o e B=>?_,I.base.tups,I.base.frzs,I.base.tbls⟩,⟨m,hn.sameBut g (WbA (L x c C)),fun j y v' l F e3=>?_⟩,fun y W e=>?_,I.free,I.freeC,fun p hp=>?_,w ⟨oc,a2,I.freeC x c C⟩ g,by simpa using I.len⟩ ⟨c,g,.inr C⟩
   . exact(g.2 b (Yaf (YaU (YaX e) (I.ok.cab x c K C)))).trans (I.base.keep b o e n J B)
   . obtain⟨sl,l⟩:=I.base.slot b o e n J B
     exact⟨sl,(g.2 b (Yaf (YaU (YaX e) (I.ok.cab x c K C)))).trans l⟩
   . obtain⟨o',l⟩:=I.base.there b o e B
     exact⟨o',(g.2 b (Yaf (YaU (YaX e) (I.ok.cab x c K C)))).trans l⟩
   . by_cases N:j=i
     . subst N
       rw [R] at l;cases l;rw [Yas G] at F;cases F;exact⟨u,r,.inr ⟨.inl O,c,C,S⟩⟩
     . rw [Yac (WbA N)] at F
       obtain⟨u',r',q⟩:=hl j y v' l F e3;refine⟨u',r',?_⟩
       rcases q with q|⟨k,W,e,z'⟩
       . exact .inl q
       . refine .inr ⟨k,W,e,z'.sameBut g ?_⟩
         rintro rfl
         exact N (zgO hN l (I.ok.inj _ _ _ e C ▸ R))
   . by_cases T:W=c
     . subst T;exact⟨_,S⟩
     . obtain⟨w2,z2⟩:=I.cell y W e
       exact⟨w2,z2.sameBut g T⟩
   . obtain⟨e,n,Y,nf,d⟩:=I.pin p hp
     refine⟨(g.2 p.1 ?_).trans e,n,Y,nf,d⟩
     intro q
     simp_all
theorem zbh(I:Inv X pins σ H s)(e:X.N.Nodup)(g:X.N[i]?=some x)(b:Loc X.env.scope x)(r:RelV v u)
 (h:∀ s',Inv X pins (σ.set i (some v)) H s'->Q () s') (a:X.fn x=true\/X.env.scope.names.lookup x=some .local:=by first|exact .inl rfl|exact .inr rfl|assumption):wpAny M A (storeName X.env x u) Q E s:=
 zff I e g b r (fun s' c _=>h s' c) a
theorem Inv.call'(I:Inv X pins σ H s)(h:s'.os=s.os)(u:Un (frs X.stack) ch H H' s.heap s'.heap)(a:HOk X.prog X.w H' s'.heap)(i:AllBare s'.gens)
 (g:∀ b∈ch,(b∈X.ex\/X.s₀.heap.objs.size<=b)/\b≠X.env.locals/\(∀ x c,X.env.cells.lookup x=some c->c≠b)/\∀ p∈X.pn++pins,p.1≠b):Inv X pins σ H' s':=by
 obtain⟨m,o,j,n,l⟩:=s';have e:=h;subst e;exact I.call u a i g
end
abbrev XK:=Value->Option Addr->Hp->Prop
abbrev St:=List (Option V)
abbrev VK:=V->Hp->Prop
abbrev TE:=St->Hp->VK->Prop
abbrev TT:=St->Hp->(Bool->Hp->Prop)->Prop
abbrev TA:=St->Hp->(List V->Hp->Prop)->Prop
structure Ends where
 nx:St->Hp->Prop
 rt:VK
 bk:St->Hp->Prop:=fun _ _=>False
 ct:St->Hp->Prop:=fun _ _=>False
abbrev TS:=Ends->St->Hp->Prop
variable{pins:List (Addr×Obj)}{s:Shared}{Q:Value->Shared->Prop}{pos pos' p:Pos}{kindOf:Str->Option NameKind}{us:List Value}{X:Cx}{e tg a c b o l:Expr}{σ:St}{es:List Expr}{K:Ybf}{mA mg:Str->Option Value}{kw:List (Str×Value)}{op:CmpOp}{C dx:Addr}{ps:List Str}{body:List Stmt}{fp:List Addr}{fd:FuncData}{te ta:TE}{v:Value}{outer:List Env}{vs xs:List V}{base:Heap}{prog:Program}{scope:Scope}{tb:TS}{n:Nat}{y:V}
def EP(X:Cx)(pins:List (Addr×Obj))(σ : St)(Q:VK)(u:Value)(s':Shared):Prop:=∃ v H',Inv X pins σ H' s'/\RelV v u/\Q v H'
def TP(X:Cx)(pins:List (Addr×Obj))(σ : St)(Q:Bool->Hp->Prop)(b:Bool)(s':Shared):Prop:=∃ H',Inv X pins σ H' s'/\Q b H'
def AP(X:Cx)(pins:List (Addr×Obj))(σ : St)(Q:List V->Hp->Prop)(us:List Value)(s':Shared):Prop:=∃ vs H',Inv X pins σ H' s'/\Vals vs us/\Q vs H'
def SP(X:Cx)(pins:List (Addr×Obj))(D:Ends)(f:Flow)(s':Shared):Prop:=
 match f with
 | .next=>∃ σ' H',Inv X pins σ' H' s'/\D.nx σ' H'
 | .brk=>∃ σ' H',Inv X pins σ' H' s'/\D.bk σ' H'
 | .cont=>∃ σ' H',Inv X pins σ' H' s'/\D.ct σ' H'
 | .ret u=>∃ v σ' H',Inv X pins σ' H' s'/\RelV v u/\D.rt v H'
def PE(X:Cx)(e:Expr)(t:TE):Prop:=
 ∀ (pins:List (Addr×Obj)) (s:Shared) (σ : St) (H:Hp) (Q:VK),Inv X pins σ H s->t σ H Q->wpAny (model X.prog X.w) X.A (eval e X.env) (EP X pins σ Q) X.xe s
def PT(X:Cx)(e:Expr)(t:TT):Prop:=
 ∀ (pins:List (Addr×Obj)) (s:Shared) (σ : St) (H:Hp) (Q:Bool->Hp->Prop),Inv X pins σ H s->t σ H Q->wpAny (model X.prog X.w) X.A (isTrue e X.env (eval e X.env)) (TP X pins σ Q) X.xe s
def PW(X:Cx)(e:Expr)(t:TT):Prop:=
 ∀ (whole:Sem Value) (pins:List (Addr×Obj)) (s:Shared) (σ : St) (H:Hp) (Q:Bool->Hp->Prop),Inv X pins σ H s->t σ H Q->wpAny (model X.prog X.w) X.A (isTrue e X.env whole) (TP X pins σ Q) X.xe s
theorem PW.pt(h:PW X e t):PT X e t:=h _
def PA(X:Cx)(es:List Expr)(t:TA):Prop:=
 ∀ (pos:Pos) (pins:List (Addr×Obj)) (s:Shared) (σ : St) (H:Hp) (Q:List V->Hp->Prop),Inv X pins σ H s->t σ H Q->wpAny (model X.prog X.w) X.A (spliced (backTo pos (starEach es X.env))) (AP X pins σ Q) X.xe s
def PS(X:Cx)(st:Stmt)(t:TS):Prop:=
 ∀ (pins:List (Addr×Obj)) (s:Shared) (σ : St) (H:Hp) (D:Ends),Inv X pins σ H s->t D σ H->wpAny (model X.prog X.w) X.A (exec st X.env) (SP X pins D) X.xe s
def PSs(X:Cx)(st:List Stmt)(t:TS):Prop:=
 ∀ (pins:List (Addr×Obj)) (s:Shared) (σ : St) (H:Hp) (D:Ends),Inv X pins σ H s->t D σ H->wpAny (model X.prog X.w) X.A (execs st X.env) (SP X pins D) X.xe s
theorem thn{t:Sem α}{Q Q':α->Shared->Prop}(h:wpAny M A t Q E s)(b:∀ a s,Q a s->Q' a s):wpAny M A t Q' E s:=wpAny_mono h b fun _ _ x=>x
section
def tVar(i:Nat):TE:=fun σ H Q=>∃ v,σ[i]?=some (some v)/\Q v H
def tC(v:V):TE:=fun _ H Q=>Q v H
theorem z9(A:X.N[i]?=some x)(q:Vis X.env.scope x)(n:(x==("__debug__" : Str))=false:=by decide)(j:(x==("__classdict__" : Str))=false:=by decide):PE X (.Name x pos) (tVar i):=by
 intro o s σ H Q I h;obtain⟨v,e,h⟩:=h;obtain⟨m,z,y⟩:=I.loc;obtain⟨u,r,l⟩:=y i x v A e q;have g:EP X _ σ Q u s:=⟨v,H,I,r,h⟩
 rcases l with ⟨b,w⟩|⟨b,c,p,a⟩
 . exact wpAny_Name (wpAny_loadName_local I.ok.kind b z w g) n
 . rcases b with b|b
   . exact wpAny_Name (wpAny_loadName_cell I.ok.kind b p a g) n
   . exact wpAny_Name (wpAny_loadName_free I.ok.kind b p a g j) n
theorem jO{i}:PE X (.Constant (.int i) j pos) (tC (.int i)):=fun _ _ _ H _ I h=>wpAny_Constant_int ⟨.int i,H,I.tok _,⟨_,rfl⟩,h⟩
theorem zgJ{b}:PE X (.Constant (.bool b) j pos) (tC (.bl b)):=fun _ _ _ H _ I h=>Constant_bool ⟨.bl b,H,I,rfl,h⟩
theorem zkG:PE X (.Constant .none j pos) (tC .non):=fun _ _ _ H _ I h=>Constant_none ⟨.non,H,I,rfl,h⟩
theorem zf2:PE X (.Constant (.str x) j pos) (tC (.str x)):=fun _ _ _ H _ I h=>Calls.Constant_str ⟨.str x,H,I.tok _,⟨_,rfl⟩,h⟩
def Gl(X:Cx)(x:Str):Prop:=X.env.kindOf x=some .globalImplicit
theorem zbH(I:Inv X pins σ H s)(a:Gl X x)(b:X.mg x=some u)(h:Q u s)
 (c:(x==("__debug__" : Str))=false:=by decide):wpAny (model X.prog X.w) X.A (eval (.Name x pos) X.env) Q E s:=
 YB I.ok.kind a (Calls.loadGlobal_global (by rw [I.ok.glob];exact I.mod.glob.keeps I.bk) b h) c
theorem Js(I:Inv X pins σ H s)(i:Gl X x)(c:X.mg x=none)(a:bootBuiltins x=some u)(h:Q u s)
 (b:x≠"__name__":=by decide) (g:(x==("__debug__" : Str))=false:=by decide):wpAny (model X.prog X.w) X.A (eval (.Name x pos) X.env) Q E s:=by
 obtain⟨l,j,e⟩:=I.mod.blt;exact YB I.ok.kind i (Calls.loadGlobal_builtin (by rw [I.ok.glob];exact I.mod.glob.keeps I.bk) c (by rw [I.ok.blt];exact j.keeps I.bk) ((e x b).trans a) h) g
theorem zf0{v:V}(c:Gl X x)(a:X.mg x=some u)(r:RelV v u)(b:(x==("__debug__" : Str))=false:=by decide):PE X (.Name x pos) (tC v):=
 fun _ _ _ H _ I h=>zbH I c a ⟨v,H,I,r,h⟩ b
variable{tb:TE}
def PC(X:Cx)(op:CmpOp)(a b:Expr)(t:TE):Prop:=
 ∀ (pins:List (Addr×Obj)) (s:Shared) (σ : St) (H:Hp) (Q:VK),Inv X pins σ H s->t σ H Q->
  wpAny (model X.prog X.w) X.A (eval a X.env) (fun v s₁=>wpAny (model X.prog X.w) X.A (eval b X.env) (fun u s₂=>wpAny (model X.prog X.w) X.A (compareOp op v u) (EP X pins σ Q) X.xe s₂) X.xe s₁) X.xe s
theorem nobehind(b)(h:op≠.In)(e:op≠.NotIn):behindInMarks op b=false:=by
 have a:(op==CmpOp.In)=false:=by grind
 have c:(op==CmpOp.NotIn)=false:=by grind
 cases b with
 | Set l k p=>show(k==0&&(op==.In||op==.NotIn)&&l.all _)=false;rw [a,c];cases k==0<;>rfl
 | _=>rfl
def tIsN(ta:TE):TE:=fun σ H Q=>ta σ H fun x H1=>Q (.bl (decide (x=.non))) H1
def zmA(ta:TE):TE:=fun σ H Q=>ta σ H fun x H1=>Q (.bl (!decide (x=.non))) H1
theorem RelV.none_iff(r:RelV x v):(v==Uc)=decide (x=.non):=by
 cases x with
 | non=>cases r;rfl
 | bl _=>cases r;rfl
 | int _=>obtain⟨t,rfl⟩:=r;rfl
 | str _=>obtain⟨t,rfl⟩:=r;rfl
 | byt _=>obtain⟨t,rfl⟩:=r;rfl
 | flt _=>obtain⟨t,rfl⟩:=r;rfl
 | ref _=>cases r;rfl
 | ty _=>cases r;rfl
theorem ziL(l:PE X a ta):PC X .Is a (.Constant .none j pos') (tIsN ta):=by
 intro b s σ H Q I h;refine thn (l _ s σ H _ I h) fun v m ξ=>?_
 refine Hd fun ν ζ=>?_;obtain⟨x,e,c,i,g⟩:=ξ;apply ζ;exact Constant_none (is_none_gen ⟨_,e,c,by rw [i.none_iff];rfl,g⟩)
theorem zmp(l:PE X a ta):PC X .IsNot a (.Constant .none j pos') (zmA ta):=by
 intro b s σ H Q I h;refine thn (l _ s σ H _ I h) fun v m ξ=>?_
 refine Hd fun ν ζ=>?_;obtain⟨x,e,c,i,g⟩:=ξ;apply ζ;exact Constant_none (isnot_none_gen ⟨_,e,c,by rw [i.none_iff];rfl,g⟩)
def tB(t:TE):TT:=fun σ H Q=>t σ H fun x H1=>∃ c,x=.bl c/\Q c H1
theorem znz(h:PC X op a b t)(g:behindInMarks op b=false:=by first|exact nobehind _ #[1] (by decide)|rfl):PE X (.Compare a [op] [b] pos) t:=fun c s σ H Q I e=>wpAny_Compare1 (h _ s σ H Q I e) g
theorem zae(h:PC X op a b t)(e:behindInMarks op b=false:=by first|exact nobehind _ #[1] (by decide)|rfl):PT X (.Compare a [op] [b] pos) (tB t):=by
 intro g s σ H Q I n;refine wpAny_isTrue_Compare1 (thn (h _ s σ H _ I n) fun v w e=>thn e fun u p o=>thn o fun c r ξ=>?_) e
 refine Hd fun ν ζ=>?_;obtain⟨x,j,i,l,m⟩:=ξ;apply ζ;obtain⟨d,rfl,q⟩:=m;cases l;exact wpAny_truthy_bool ⟨j,i,q⟩
theorem zmH(h:PE X e t)(c:∀ whole,isTrue e X.env whole=(do let v <-whole;standAt e.pos;holding [v] (truthy v)):=by intro _;rfl):PT X e (tB t):=by
 intro a s σ H Q I l;refine isTrue_plain (thn (h _ s σ H _ I l) fun v m ⟨x,g,b,i,j⟩=>?_) (c _)
 obtain⟨d,rfl,q⟩:=j;cases i;exact wpAny_truthy_bool ⟨g,b,q⟩
variable{tA tB':TT}{rest:List Expr}
def tAnd(t u:TT):TT:=fun σ H Q=>t σ H fun c H1=>if c=true then u σ H1 Q else Q false H1
def tOr(t u:TT):TT:=fun σ H Q=>t σ H fun c H1=>if c=true then Q true H1 else u σ H1 Q
def tNot(t:TT):TT:=fun σ H Q=>t σ H fun c H1=>Q (!c) H1
theorem znr(g:PT X a tA):PW X (.BoolOp .And [a] pos) tA:=by
 intro j b s σ H Q I h;refine isTrue_and (thn (g _ s σ H Q I h) fun c i e=>?_)
 cases c with
 | true=>exact isTrue_and_nil e
 | false=>exact e
theorem zft(g:PT X a tA):PW X (.BoolOp .Or [a] pos) tA:=by
 intro j b s σ H Q I h;refine isTrue_or (thn (g _ s σ H Q I h) fun c i e=>?_)
 cases c with
 | false=>exact isTrue_or_nil e
 | true=>exact e
theorem zlM(m:PT X a tA)(o:PW X (.BoolOp .And (b::rest) pos) tB'):PW X (.BoolOp .And (a::b::rest) pos) (tAnd tA tB'):=by
 intro n j s σ H Q I h;refine isTrue_and (thn (m _ s σ H _ I h) fun c l ⟨g,e,i⟩=>?_)
 cases c with
 | true=>exact o n _ l σ g Q e i
 | false=>exact⟨g,e,i⟩
theorem ze8(m:PT X a tA)(o:PW X (.BoolOp .Or (b::rest) pos) tB'):PW X (.BoolOp .Or (a::b::rest) pos) (tOr tA tB'):=by
 intro n j s σ H Q I h;refine isTrue_or (thn (m _ s σ H _ I h) fun c l ⟨g,e,i⟩=>?_)
 cases c with
 | true=>exact⟨g,e,i⟩
 | false=>exact o n _ l σ g Q e i
theorem zhD(c:PT X a tA):PT X (.UnaryOp .Not a pos) (tNot tA):=by
 intro b s σ H Q I h;exact isTrue_not (c _ s σ H _ I h)
def tIf(t:TT)(ta tb:TE):TE:=fun σ H Q=>t σ H fun c H1=>if c=true then ta σ H1 Q else tb σ H1 Q
theorem zgW(n:PT X c tA)(m:PE X a ta)(o:PE X b tb):PE X (.IfExp c a b pos) (tIf tA ta tb):=by
 intro l s σ H Q I h;refine wpAny_IfExp (thn (n _ s σ H _ I h) fun d j ⟨g,e,i⟩=>?_)
 cases d with
 | true=>exact m _ j σ g Q e i
 | false=>exact o _ j σ g Q e i
end
def SqL(K:Ybf)(H:Hp)(a:Addr)(xs:List V):Prop:=
 Rd H a (.lst xs)\/
  ∃ (o:Obj) (its:Array Value) (n:Nat),K.lookup a=some o/\o.cls=.type "list"/\o.dict=none/\o.data=.seq its n/\its.size<=sizeLine/\Vals xs its.toList
def SqT(K:Ybf)(H:Hp)(a:Addr)(xs:List V):Prop:=
 Rd H a (.tup xs)\/
  ∃ (o:Obj) (its:Array Value) (n:Nat),K.lookup a=some o/\o.cls=.type "tuple"/\o.data=.seq its n/\its.size<=sizeLine/\Vals xs its.toList
noncomputable def absV:Value->Option V
 | .none=>some .non
 | .bool b=>some (.bl b)
 | .int i _=>some (.int i)
 | .str x _=>some (.str x)
 | .bytes b _=>some (.byt b)
 | .float b _=>some (.flt b)
 | .ref a=>some (.ref a)
 | .type n=>some (.ty n)
 | _=>none
theorem RelV.abs(r:RelV x u):absV u=some x:=by
 cases x with
 | non=>cases r;rfl
 | bl _=>cases r;rfl
 | int _=>obtain⟨t,rfl⟩:=r;rfl
 | str _=>obtain⟨t,rfl⟩:=r;rfl
 | byt _=>obtain⟨t,rfl⟩:=r;rfl
 | flt _=>obtain⟨t,rfl⟩:=r;rfl
 | ref _=>cases r;rfl
 | ty _=>cases r;rfl
theorem RelV.inj(r:RelV x u)(q:RelV y u):x=y:=Wa3 (r.abs.symm.trans q.abs)
theorem Vals.inj:∀ {xs ys:List V} {us:List Value},Vals xs us->Vals ys us->xs=ys:=by
 intro xs ys us h;induction h generalizing ys with
 | nil=>intro g;cases g;rfl
 | cons r _ f=>intro g;cases g with|cons a b=>rw [r.inj a,f b]
section
variable{a:Addr}{ys:List V}
theorem SqL.of(h:H a=some (.lst xs)):SqL K H a xs:=.inl (.inl h)
theorem SqT.of(h:H a=some (.tup xs)):SqT K H a xs:=.inl (.inl h)
theorem Inv.list(I:Inv X pins σ H s)(h:SqL X.K H a xs):∃ its:List Value,Vals xs its/\PlainL s.heap a its.toArray/\xs.length<=sizeLine:=by
 rcases h with h|⟨o,its,n,b,g,c,j,i,r⟩
 . obtain⟨z,its,n,r,e⟩:=h.ok I.hok
   exact⟨its,r,⟨_,n,e,rfl,rfl,rfl⟩,z⟩
 . refine⟨_,r,⟨o,n,I.kIn a o b,g,c,#[0]⟩,?_⟩
   have e:=r.length
   grind
theorem Inv.tuple(I:Inv X pins σ H s)(h:SqT X.K H a xs):∃ its:List Value,Vals xs its/\IsTup s.heap a its.toArray/\xs.length<=sizeLine:=by
 rcases h with h|⟨o,its,n,b,c,i,g,r⟩
 . obtain⟨z,its,r,p⟩:=h.ok I.hok
   exact⟨its,r,p,z⟩
 . refine⟨_,r,⟨o,I.kIn a o b,c,n,#[0]⟩,?_⟩
   have e:=r.length
   grind
theorem Inv.list_inj(I:Inv X pins σ H s)(h:SqL X.K H a xs)(h':SqL X.K H a ys):xs=ys:=by
 obtain⟨i,r,⟨o,n,e,_,_,d⟩,_⟩:=I.list h;obtain⟨g,j,⟨l,m,c,_,_,b⟩,_⟩:=I.list h';rw [e] at c;cases c;rw [d] at b
 injection b with d1 _
 have:=by simpa using congrArg WK d1
 subst this;exact r.inj j
theorem Inv.tuple_inj(I:Inv X pins σ H s)(h:SqT X.K H a xs)(h':SqT X.K H a ys):xs=ys:=by
 obtain⟨i,r,⟨o,e,_,n,d⟩,_⟩:=I.tuple h;obtain⟨g,j,⟨l,c,_,m,b⟩,_⟩:=I.tuple h';rw [e] at c;cases c;rw [d] at b
 injection b with d1 _
 have:=by simpa using congrArg WK d1
 subst this;exact r.inj j
end
section
variable{st:Stmt}{rest:List Stmt}{t u:TS}
def tNext:TS:=fun D σ H=>D.nx σ H
def tSeq(t u:TS):TS:=fun D σ H=>t { D with nx:=u D } σ H
theorem Sq{t u:TS}{D:Ends}{σ : St}{H:Hp}(h:∀ N:St->Hp->Prop,(∀ σ H,u D σ H->N σ H)->t { D with nx:=N } σ H):tSeq t u D σ H:=h _ fun _ _ z=>z
theorem zez:PSs X [] tNext:=fun _ _ σ H _ I h=>wpAny_execs_nil ⟨σ,H,I,h⟩
theorem zL(g:PS X st t)(i:PSs X rest u):PSs X (st::rest) (tSeq t u):=by
 intro b s σ H D I h;refine wpAny_execs_cons (thn (g _ s σ H _ I h) fun f e q=>?_)
 cases f with
 | next=>
  obtain⟨a,c,j,q⟩:=q;exact i _ e a c D j q
 | ret v=>exact q
 | brk=>exact q
 | cont=>exact q
theorem jf(b:PS X st t):PSs X [st] t:=by
 intro a s σ H D I h;refine wpAny_execs_cons (thn (b _ s σ H D I h) fun f c q=>?_)
 cases f with
 | next=>exact wpAny_execs_nil q
 | ret v=>exact q
 | brk=>exact q
 | cont=>exact q
theorem Inv.quiet(I:Inv X pins σ H s):interactive X.env=false:=by simp [interactive,I.ok.kind]
def zjP(te:TE):TS:=fun D σ H=>te σ H fun _ H1=>D.nx σ H1
theorem j0(c:PE X e te)(j:swapsWith e none pos.line X.env=pure false:=by rfl):PS X (.Expr e pos) (zjP te):=by
 intro a s σ H D I h;exact wpAny_Expr_any (thn (c _ s σ H _ I h) fun v l zz0 => by obtain ⟨x,g,b,m,i⟩ := zz0; exact ⟨σ,g,b,i⟩) I.quiet j
def tRet(te:TE):TS:=fun D σ H=>te σ H D.rt
theorem J4(c:PE X e te):PS X (.Return (some e) pos) (tRet te):=by
 intro a s σ H D I h;exact wpAny_Return_some (thn (c _ s σ H _ I h) fun v l zz0 => by obtain ⟨x,g,b,i,j⟩ := zz0; exact ⟨x,σ,g,b,i,j⟩)
def tIfS(c:TT)(t u:TS):TS:=fun D σ H=>c σ H fun b H1=>if b=true then t D σ H1 else u D σ H1
theorem zex{a b:List Stmt}(n:PT X c tc)(m:PSs X a t)(o:PSs X b u):PS X (.If c a b pos) (tIfS tc t u):=by
 intro j s σ H D I h;refine wpAny_If (thn (n _ s σ H _ I h) fun d i ⟨g,e,l⟩=>?_)
 cases d with
 | true=>exact m _ i σ g D e l
 | false=>exact o _ i σ g D e l
end
abbrev TG:=V->St->Hp->(St->Hp->Prop)->Prop
abbrev TGs:=List V->St->Hp->(St->Hp->Prop)->Prop
def PG(X:Cx)(target:Expr)(t:TG):Prop:=
 ∀ (pins:List (Addr×Obj)) (s:Shared) (σ : St) (H:Hp) (v:V) (u:Value) (Q:St->Hp->Prop),Inv X pins σ H s->RelV v u->t v σ H Q->
  wpAny (model X.prog X.w) X.A (assign target X.env u) (fun _ s'=>∃ σ' H',Inv X pins σ' H' s'/\Q σ' H') X.xe s
def PGs(X:Cx)(ts:List Expr)(t:TGs):Prop:=
 ∀ (pins:List (Addr×Obj)) (s:Shared) (σ : St) (H:Hp) (vs:List V) (us:List Value) (Q:St->Hp->Prop),Inv X pins σ H s->Vals vs us->t vs σ H Q->
  wpAny (model X.prog X.w) X.A (assignInOrder ((assignEach ts X.env).map (·.2)) us) (fun _ s'=>∃ σ' H',Inv X pins σ' H' s'/\Q σ' H') X.xe s
abbrev TSet:=V->V->V->Hp->(Hp->Prop)->Prop
def PSet(X:Cx)(t:TSet):Prop:=
 ∀ (pins:List (Addr×Obj)) (s:Shared) (σ : St) (H:Hp) (o i v:V) (ov iv u:Value) (Q:Hp->Prop),Inv X pins σ H s->RelV o ov->RelV i iv->RelV v u->t o i v H Q->
  wpAny (model X.prog X.w) X.A (setItem ov iv u) (fun _ s'=>∃ H',Inv X pins σ H' s'/\Q H') X.xe s
abbrev TIp:=V->V->Hp->VK->Prop
def PIp(X:Cx)(op:Operator)(t:TIp):Prop:=
 ∀ (pins:List (Addr×Obj)) (s:Shared) (σ : St) (H:Hp) (x y:V) (v u:Value) (Q:VK),Inv X pins σ H s->RelV x v->RelV y u->t x y H Q->
  wpAny (model X.prog X.w) X.A (inplaceOp op v u) (EP X pins σ Q) X.xe s
def zb7(i:Nat):TG:=fun v σ H Q=>Q (σ.set i (some v)) H
theorem jl(g:X.N.Nodup)(c:X.N[i]?=some x)(e:Loc X.env.scope x)(b:X.fn x=true\/X.env.scope.names.lookup x=some .local:=by first|exact .inl rfl|exact .inr rfl|assumption):PG X (.Name x pos) (zb7 i):=by
 intro a s σ H v u Q I r h;exact wpAny_assign_Name (zbh I g c e r (fun l j=>⟨_,H,j,h⟩) b)
def gNil:TGs:=fun vs σ H Q=>vs=[]/\Q σ H
def zkg(t:TG)(u:TGs):TGs:=fun vs σ H Q=>∃ v r,vs=v::r/\t v σ H fun σ' H'=>u r σ' H' Q
theorem zbQ:PGs X [] gNil:=by
 intro a s σ H c b Q I r h;obtain⟨e,h⟩:=h;exact assignInOrder_nil ⟨σ,H,I,h⟩
theorem JS{e:Expr}{es:List Expr}{u:TGs}(j:PG X e t)(n:PGs X es u)
 (o:(assignEach (e::es) X.env).map (·.2)=assign e X.env::(assignEach es X.env).map (·.2):=by rfl):PGs X (e::es) (zkg t u):=by
 intro b s σ H w y Q I r h;obtain⟨v,q,m,h⟩:=h;subst m;cases r with
 | cons r p=>
  rw [o];refine assignInOrder_cons (thn (j _ s σ H _ _ _ I r h) fun _ i ξ=>?_)
  refine Hd fun ν ζ=>?_;obtain⟨a,g,c,l⟩:=ξ;apply ζ;exact n _ i a g _ _ Q c p l
def gTup(K:Ybf)(n:Nat)(t:TGs):TG:=fun v σ H Q=>∃ a xs,v=.ref a/\SqT K H a xs/\xs.length=n/\t xs σ H Q
theorem zch{es:List Expr}{n:Nat}(w:X.calm=true)(h:PGs X es t)
 (z:(assignEach es X.env).length=n:=by rfl) (c:(assignEach es X.env).findIdx? (·.1)=none:=by rfl):PG X (.Tuple es k pos) (gTup X.K n t):=by
 intro i s σ H v u Q I r g;obtain⟨a,q,A,C,y,g⟩:=g;subst A;cases r;obtain⟨l,B,m,F⟩:=I.tuple C;refine assign_Tuple_tuple (I.ok.hd w) m (by simp [z,<-y,B.length]) c fun E p=>?_
 have j:=I.kept (t':=s.toks) fun b o e=>p b o (Yaf (YaX e)) e
 exact h _ _ σ H q _ Q j #[0] g
def gSub(to ti:TE)(t:TSet):TG:=fun v σ H Q=>to σ H fun o H1=>ti σ H1 fun i H2=>t o i v H2 fun H3=>Q σ H3
theorem zfA{i:Expr}(l:PE X o to)(m:PE X i ti)(E:PSet X t)
 (G:∀ v,assign (.Subscript o i pos) X.env v=(do
  let ov <-holding [v] (eval o X.env)
  let iv <-holding [v,ov] (eval i X.env)
  standAt pos
  holding [v,ov,iv] (setItem ov iv v)
  release [v,ov,iv] []):=by intro _;rfl):PG X (.Subscript o i pos) (gSub to ti t):=by
 intro a s σ H v u Q I r h;refine wpAny_bind (wpAny_holding (thn (l _ s σ H _ I h) fun ov n ⟨x,j,b,z,B⟩=>?_))
 refine wpAny_bind (wpAny_holding (thn (m _ n σ j _ b B) fun iv e ⟨y,q,A,g,p⟩=>?_))
 refine wpAny_bind (wpAny_standAt (wpAny_bind (wpAny_holding (thn (E _ e σ q x y v ov iv u _ A z g r p) fun _ F ⟨w,C,c⟩=>?_))))
 exact wpAny_release ⟨σ,w,C,c⟩
def tAsg(te:TE)(g:TG):TS:=fun D σ H=>te σ H fun x H1=>g x σ H1 D.nx
theorem zcv{tg e:Expr}{te:TE}(c:PE X e te)(l:PG X tg g)(r:swapsWithSole [tg] e pos.line X.env=pure false:=by rfl)(p:swappedStores [tg] e X.env=pure none:=by rfl)
 (m:(assignEach [tg] X.env).map (·.2)=[assign tg X.env]:=by rfl):PS X (.Assign [tg] e pos) (tAsg te g):=by
 intro a s σ H D I h;refine wpAny_Assign_stores (thn (c _ s σ H _ I h) fun v j ⟨x,i,b,n,o⟩=>?_) r p
 rw [m];exact thn (l _ j σ i x v _ b n o) fun _ u q=>q
theorem jd(r:X.N.Nodup)(l:X.N[i]?=some x)(m:Loc X.env.scope x)(g:PE X e te)(q:swapsWith e (some (.Name x pos')) pos.line X.env=pure false:=by rfl)(b:X.fn x=true\/X.env.scope.names.lookup x=some .local:=by first|exact .inl rfl|exact .inr rfl|assumption) :
 PS X (.Assign [.Name x pos'] e pos) (tAsg te (zb7 i)):=by
 intro a s σ H D I h;refine wpAny_Assign_Name (thn (g _ s σ H _ I h) fun v w ξ=>?_) q
 refine Hd fun ν ζ=>?_;obtain⟨y,j,c,n,p⟩:=ξ;apply ζ;exact zbh c r l m n (fun u o=>⟨_,j,o,p⟩) b
def tPar(i j:Nat)(ta:TA):TS:=fun D σ H=>ta σ H fun vs H1=>∃ v w,vs=[v,w]/\D.nx ((σ.set i (some v)).set j (some w)) H1
theorem zmC{y:Str}{ta:TA}(R:X.calm=true)(F:X.N.Nodup)(K:X.N[i]?=some x)(Y:X.N[j]?=some y)(r:i≠j)
 (A:X.env.scope.names.lookup x=some .local) (E:X.env.scope.names.lookup y=some .local) (O:PA X [a,b] ta)
 (T:swappedStores [.Tuple [.Name x px,.Name y py] kt pt] (.Tuple [a,b] k2 pt2) X.env=pure (some [x,y]))
 (hs:swapsWithSole [.Tuple [.Name x px,.Name y py] kt pt] (.Tuple [a,b] k2 pt2) pos.line X.env=pure false:=by rfl) :
 PS X (.Assign [.Tuple [.Name x px,.Name y py] kt pt] (.Tuple [a,b] k2 pt2) pos) (tPar i j ta):=by
 intro C s σ H D I h;refine wpAny_bind (wpAny_standAt ?_);refine wpAny_bind (wpAny_pure ?_);refine wpAny_bind (Tuple_ (thn (O _ _ s σ H _ I h) fun L m ⟨vs,z,G,M,n⟩=>?_))
 obtain⟨v,w,P,n⟩:=n;subst P;obtain⟨c,g,rfl,W,u⟩:∃ c g,L=[c,g]/\RelV v c/\RelV w g:=by
  cases M with
  | cons p q=>
   cases q with
   | cons N J=>
    cases J;exact⟨_,_,rfl,p,N⟩
 refine wpAny_newObj_type ?_ (by show 2<=sizeLine;decide)
 have S:Inv X _ σ z { m with heap:=m.heap.push { cls:=.type "tuple", data:=.seq [c,g].toArray } }:=G.kept fun b o e=>YaW _ e
 rw [T];refine wpAny_bind (wpAny_pure ?_);refine wpAny_bind (wpAny_rule (wpAny_bind (unpackItems_tuple (items:=#[c,g]) (I.ok.hd R) (IsTup.new _ _) fun h' l=>?_)))
 have U:=S.kept (t':=m.toks) fun b o e=>l b o (Yaf (YaX e)) e
 refine wpAny_bind (assignInOrder_cons (wpAny_bindName (zbh U F Y (.inl E) u (fun Z Q=>?_) (.inr E))))
 refine assignInOrder_cons (wpAny_bindName (zbh Q F K (.inl A) W (fun s3 B=>assignInOrder_nil (wpAny_pure ?_)) (.inr A)))
 rw [List.set_comm _ _ (WbA r)] at B;exact⟨_,z,B,n⟩
def tAug(i:Nat)(te:TE)(ti:TIp):TS:=fun D σ H=>∃ x,σ[i]?=some (some x)/\te σ H fun y H1=>ti x y H1 fun z H2=>D.nx (σ.set i (some z)) H2
theorem zlb{op:Operator}(Y:X.N.Nodup)(A:X.N[i]?=some x)(o:Loc X.env.scope x)(C:PE X e te)(F:PIp X op ti)(O:X.fn x=true\/X.env.scope.names.lookup x=some .local:=by first|exact .inl rfl|exact .inr rfl|assumption) :
 PS X (.AugAssign (.Name x pos') op e pos) (tAug i te ti):=by
 intro n s σ H D I h;obtain⟨v,N,h⟩:=h;obtain⟨m,M,T⟩:=I.loc;have p:Vis X.env.scope x:=by rcases o with k|k;exact .inl k;exact .inr (.inl k)
 obtain⟨u,r,l⟩:=T i x v A N p;refine wpAny_AugAssign_Name ?_;have q:wpAny (model X.prog X.w) X.A (eval e X.env) (fun w g=>wpAny (model X.prog X.w) X.A (inplaceOp op u w) (fun r j=>wpAny (model X.prog X.w) X.A (storeName X.env x r) (fun _=>SP X n D .next) X.xe j) X.xe g) X.xe s:=by
  refine thn (C _ s σ H _ I h) fun w G ξ=>?_
  refine Hd fun ν ζ=>?_;obtain⟨y,E,B,L,S⟩:=ξ;apply ζ;refine thn (F _ G σ E v y u w _ B r L S) fun z s2 ξ=>?_
  refine Hd fun ν ζ=>?_;obtain⟨Z,Q,R,P,K⟩:=ξ;apply ζ;exact zbh R Y A o P (fun s3 W=>⟨_,Q,W,K⟩) O
 rcases l with ⟨a,J⟩|⟨a,c,U,b⟩
 . exact wpAny_loadName_local I.ok.kind a M J q
 . rcases a with a|a
   . exact wpAny_loadName_cell I.ok.kind a U b q
   . rcases o with k|k
     . have:X.env.scope.names.lookup x=some _:=a
       simp_all
     . have:X.env.scope.names.lookup x=some _:=a
       simp_all
def zkY(to ti te:TE)(tget:V->V->Hp->VK->Prop)(tip:TIp)(tset:TSet):TS:=fun D σ H=>to σ H fun o H1=>ti σ H1 fun i H2=>tget o i H2 fun x H3=>te σ H3 fun y H4=>tip x y H4 fun z H5=>tset o i z H5 fun H6=>D.nx σ H6
def PGet(X:Cx)(t:V->V->Hp->VK->Prop):Prop:=
 ∀ (pins:List (Addr×Obj)) (s:Shared) (σ : St) (H:Hp) (o i:V) (ov iv:Value) (Q:VK),Inv X pins σ H s->RelV o ov->RelV i iv->t o i H Q->
  wpAny (model X.prog X.w) X.A (getItem ov iv) (EP X pins σ Q) X.xe s
theorem zdV{i:Expr}{op:Operator}(u:PE X o to)(w:PE X i ti)(C:PGet X tget)(q:PE X e te)(y:PIp X op tip)(N:PSet X tset)
 (J:∀ ov iv new,augStore i ov iv new=(do holding [new,ov,iv] (setItem ov iv new);release [new,ov,iv] [];pure .next):=by intros;rfl):PS X (.AugAssign (.Subscript o i tpos) op e pos) (zkY to ti te tget tip tset):=by
 intro l s σ H D I h;refine wpAny_AugAssign_SubscriptAny (thn (u _ s σ H _ I h) fun ov A ξ=>?_) J
 refine Hd fun ν ζ=>?_;obtain⟨g,r,m,c,Z⟩:=ξ;apply ζ;refine thn (w _ A σ r _ m Z) fun iv p ξ=>?_
 refine Hd fun ν ζ=>?_;obtain⟨b,S,Y,j,B⟩:=ξ;apply ζ;refine thn (C _ p σ S g b ov iv _ Y c j B) fun a z ξ=>?_
 refine Hd fun ν ζ=>?_;obtain⟨M,T,I3,O,n⟩:=ξ;apply ζ;refine thn (q _ z σ T _ I3 n) fun v s4 ξ=>?_
 refine Hd fun ν ζ=>?_;obtain⟨E,H4,L,K,q4⟩:=ξ;apply ζ;refine thn (y _ s4 σ H4 M E a v _ L O K q4) fun new R ξ=>?_
 refine Hd fun ν ζ=>?_;obtain⟨x5,P,F,U,G⟩:=ξ;apply ζ;exact thn (N _ R σ P g b x5 ov iv new _ F c j U G) fun _ s6 ⟨W,Q,q6⟩=>⟨σ,W,Q,q6⟩
def ipI(f:Int->Int->Int):TIp:=fun x y H Q=>∃ i j,x=.int i/\y=.int j/\Q (.int (f i j)) H
theorem zdR:PIp X .Add (ipI fun i j=>i+j):=by
 intro a s σ H x y v u Q I e b h;obtain⟨i,j,g,c,q⟩:=h;subst g;subst c;obtain⟨t,rfl⟩:=e;obtain⟨l,rfl⟩:=b;exact iadd_int ⟨.int _,H,I.tok _,⟨_,rfl⟩,q⟩
theorem zli:PIp X .Sub (ipI fun i j=>i - j):=by
 intro a s σ H x y v u Q I e b h;obtain⟨i,j,g,c,q⟩:=h;subst g;subst c;obtain⟨t,rfl⟩:=e;obtain⟨l,rfl⟩:=b;exact isub_int ⟨.int _,H,I.tok _,⟨_,rfl⟩,q⟩
def zfN(c:TT)(tb:TS):TS:=fun D σ H=>∃ W:Nat->St->Hp->Prop,(∃ m,W m σ H)/\∀ m σ H,W m σ H->
 c σ H fun b H1=>if b=true then ∃ N:St->Hp->Prop,(∀ σ' H',N σ' H'->∃ m',m'<m/\W m' σ' H')/\tb { D with nx:=N,ct:=N,bk:=D.nx } σ H1 else D.nx σ H1
theorem zdl(z:PassesOwn (model X.prog X.w) X.A X.env X.xe)(Q:PT X c tc)(K:PSs X body tb):PS X (.While c body [] pos) (zfN tc tb):=by
 intro A s σ H D I h;obtain⟨W,⟨M,P⟩,i⟩:=h;refine wpAny_While (codeAny_whileLoop (fun n O=>∃ g w,Inv X _ g w O/\W n g w) ?_ M ⟨σ,H,I,P⟩)
 rintro n J ⟨e,y,F,L⟩
 refine wpAny_passesOwn z (thn (Q _ J e y _ F (i n e y L)) fun b G ⟨B,C,m⟩=>?_)
 cases b with
 | true=>
  obtain⟨N,E,m⟩:=m;refine wpAny_passesOwn z (thn (K _ G e B _ C m) fun f R l=>?_)
  cases f with
  | next=>
   obtain⟨a,j,u,p⟩:=l;obtain⟨r,o,q⟩:=E a j p;exact⟨r,o,a,j,u,q⟩
  | cont=>
   obtain⟨a,j,u,p⟩:=l;obtain⟨r,o,q⟩:=E a j p;exact⟨r,o,a,j,u,q⟩
  | brk=>exact l
  | ret v=>exact l
 | false=>
  exact wpAny_execs_nil ⟨e,B,C,m⟩
structure It where
 go:Nat->Hp->Prop
 yld:Nat->Hp->V->Hp->Prop
 stop:Nat->Hp->Prop
def FpOk(X:Cx)(pins:List (Addr×Obj))(H:Hp)(b:Addr):Prop:=
 H b=none/\b≠X.env.locals/\b∉X.fs/\(b∈X.ex\/X.s₀.heap.objs.size<=b)/\(∀ x c,X.env.cells.lookup x=some c->c≠b)/\∀ p∈X.pn++pins,p.1≠b
theorem Inv.fpOk{b:Addr}(I:Inv X pins σ H s)(a:s.heap.objs.size<=b)(g:H' b=none):FpOk X pins H' b:=by
 refine⟨g,Wbo (YaU I.lt a),I.nofs a,.inr (Ya5 I.sz a),fun x c e z=>?_,fun p h z=>?_⟩
 . obtain⟨v,q⟩:=I.cell x c e
   exact absurd (YaU q.lt (by simp_all)) (Yap _)
 . exact absurd (YaU (YaX (I.pin p h).1) (by simp_all)) (Yap _)
structure Turn(P:Program)(w:World)(K:Ybf)(tg:Expr)(J:It)(fp:List Addr)(it:Addr)(tn:Nat->Heap->Prop):Prop where
 mem:it∈fp
 obj:∀ i h,tn i h->∀ b∈fp,∃ o,h.get? b=some o/\∀ v,o.data≠.cell v
 keep:∀ i h h',tn i h->(∀ b∈fp,∀ o,h.get? b=some o->h'.get? b=some o)->tn i h'
 item:∀ (X:Cx),X.prog=P->X.w=w->X.K=K->X.calm=true->∀ (i:Nat) (pins:List (Addr×Obj)) (s:Shared) (σ : St) (H:Hp) (E:Value->Shared->Prop),Inv X pins σ H s->(∀ b∈fp,FpOk X pins H b)->tn i s.heap->J.go i H->
  wpAny (model P w) X.A (pyNext (.ref it)) (fun r s1=>∃ u,r=some u/\
   wpAny (model P w) X.A (letOwnedTupleGo tg (.ref it) u) (fun _ s2=>∃ x H',Inv X pins σ H' s2/\RelV x u/\J.yld i H x H'/\tn (i+1) s2.heap/\∀ b∈fp,H' b=none) E s1) E s
 done:∀ (X:Cx),X.prog=P->X.w=w->X.K=K->X.calm=true->∀ (i:Nat) (pins:List (Addr×Obj)) (s:Shared) (σ : St) (H:Hp) (E:Value->Shared->Prop),Inv X pins σ H s->(∀ b∈fp,FpOk X pins H b)->tn i s.heap->J.stop i H->
  wpAny (model P w) X.A (pyNext (.ref it)) (fun r s1=>r=none/\Inv X pins σ H s1) E s
 self:∀ (A:Around) (i:Nat) (s:Shared) (Q:Value->Shared->Prop) (E:Value->Shared->Prop),tn i s.heap->Q (.ref it) s->wpAny (model P w) A (pyIter (.ref it)) Q E s
abbrev TI:=St->Hp->(It->Hp->Prop)->Prop
def PIE(X:Cx)(pins:List (Addr×Obj))(σ : St)(tg:Expr)(R:It->Hp->Prop)(itv:Value)(s2:Shared):Prop:=
 ∃ (it:Addr) (fp:List Addr) (tn:Nat->Heap->Prop) (J:It) (H':Hp),itv=.ref it/\Inv X pins σ H' s2/\Turn X.prog X.w X.K tg J fp it tn/\tn 0 s2.heap/\(∀ b∈fp,FpOk X pins H' b)/\R J H'
def PI(X:Cx)(tg iter:Expr)(wi:TI):Prop:=
 ∀ (pins:List (Addr×Obj)) (s:Shared) (σ : St) (H:Hp) (R:It->Hp->Prop),Inv X pins σ H s->wi σ H R->
  wpAny (model X.prog X.w) X.A (eval iter X.env) (fun v s1=>wpAny (model X.prog X.w) X.A (pyIter v) (PIE X pins σ tg R) X.xe s1) X.xe s
theorem zdf{o:Obj}{n:String}{vs:Array Value}{Q:Unit->Shared->Prop}(e:s.heap.get? it=some o)(c:o.cls=.type n)(b:o.data=.fields vs)
 (g:["enumerate", "zip", "dict_itemiterator", "dict_reverseitemiterator", "odict_iterator", "itertools.zip_longest", "itertools.pairwise"].contains n=false) (a:Q () s):wpAny M A (letOwnedTupleGo tg (.ref it) u) Q E s:=by
 cases tg<;>first
  | exact wpAny_pure a
  | (cases u <;> first
   | exact wpAny_pure a
   | (refine wpAny_bind (wpAny_load e ?_)
      rw [c,b];show wpAny M A (if(["enumerate", "zip", "dict_itemiterator", "dict_reverseitemiterator", "odict_iterator", "itertools.zip_longest", "itertools.pairwise"].contains n&&vs[0]? == some _)=true then _ else _) Q E s
      rw [if_neg #[0]]
      exact wpAny_pure a))
def Itl(K:Ybf)(a:Addr):It:=
 ⟨fun i H=>∃ xs x,SqL K H a xs/\xs[i]?=some x,fun i H x H'=>H'=H/\∀ xs,SqL K H a xs->xs[i]?=some x,fun i H=>∃ xs,SqL K H a xs/\xs.length<=i⟩
noncomputable def Itt(K:Ybf)(a:Addr):It:=
 ⟨fun i H=>∃ xs x,SqT K H a xs/\xs[i]?=some x,fun i H x H'=>H'=H/\∀ xs,SqT K H a xs->xs[i]?=some x,fun i H=>∃ xs,SqT K H a xs/\xs.length<=i⟩
def Itr(lo:Int)(n:Nat):It:=⟨fun i _=>i<n,fun i H x H'=>H'=H/\x=.int (lo+i),fun i _=>n<=i⟩
theorem zka(a it):Turn P w K tg (Itl K a) [it] it (fun i h=>h.IsListIter it a i) where
 mem:=by simp
 obj:=fun i h g b j=>by
  refine Hd fun V ζ=>?_;obtain⟨o,e,c,d⟩:=g;apply ζ
  simp_all
 keep:=fun i h N g k=>g.at fun o e=>k it (by simp) o e
 item:=by
  intro X C L r O i m s σ H E I q g z;subst C L r;refine Hd fun V ζ=>?_;obtain⟨T,x,n,v⟩:=z;obtain⟨F,M,p,W⟩:=I.list n;apply ζ;obtain⟨u,R,S⟩:=M.get v;refine Hd fun V ζ=>?_;obtain⟨B,A,f2,G,y,J⟩:=q it (by simp);apply ζ
  refine wpAny_pyNext_list_item g p.isList (by simpa using R) fun N l Y=>?_
  have Q:=I.turned (t':=s.toks) (fun b o j e=>(Y.2 b j).trans e) B A G y J
  refine Hd fun V ζ=>?_;obtain⟨o,e,c,d⟩:=id l;apply ζ;exact⟨u,rfl,zdf e c d #[1] ⟨x,H,Q,S,⟨rfl,fun ys Z=>by rw [I.list_inj Z n];exact v⟩,l,fun b j=>(q b j).1⟩⟩
 done:=by
  intro X C L r O i m s σ H E I q g z;subst C L r;obtain⟨T,n,v⟩:=z;refine Hd fun V ζ=>?_;obtain⟨F,M,p,W⟩:=I.list n;obtain⟨B,A,f2,G,y,J⟩:=q it (by simp);apply ζ
  have hl:=M.length;exact wpAny_pyNext_list_end (I.ok.hd O) g p.isList (by simp;lia) fun N U=>⟨rfl,I.turned (fun b o j e=>U b o j e) B A G y J⟩
 self:=fun _ _ _ _ _ g h=>wpAny_pyIter_listiter g h
theorem zm0(a it):Turn P w K tg (Itt K a) [it] it (fun i h=>h.IsTupleIter it a i) where
 mem:=by simp
 obj:=fun i h g b j=>by
  refine Hd fun V ζ=>?_;obtain⟨o,e,c,d⟩:=g;apply ζ
  simp_all
 keep:=fun i h N g k=>g.at fun o e=>k it (by simp) o e
 item:=by
  intro X C L r O i m s σ H E I q g z;subst C L r;refine Hd fun V ζ=>?_;obtain⟨T,x,n,v⟩:=z;obtain⟨F,M,p,W⟩:=I.tuple n;apply ζ;obtain⟨u,R,S⟩:=M.get v;refine Hd fun V ζ=>?_;obtain⟨B,A,f2,G,y,J⟩:=q it (by simp);apply ζ
  refine wpAny_pyNext_tuple_item g (p) (by simpa using R) fun N l Y=>?_
  have Q:=I.turned (t':=s.toks) (fun b o j e=>(Y.2 b j).trans e) B A G y J
  refine Hd fun V ζ=>?_;obtain⟨o,e,c,d⟩:=id l;apply ζ;exact⟨u,rfl,zdf e c d #[1] ⟨x,H,Q,S,⟨rfl,fun ys Z=>by rw [I.tuple_inj Z n];exact v⟩,l,fun b j=>(q b j).1⟩⟩
 done:=by
  intro X C L r O i m s σ H E I q g z;subst C L r;obtain⟨T,n,v⟩:=z;refine Hd fun V ζ=>?_;obtain⟨F,M,p,W⟩:=I.tuple n;obtain⟨B,A,f2,G,y,J⟩:=q it (by simp);apply ζ
  have hl:=M.length;exact wpAny_pyNext_tuple_end (I.ok.hd O) g (p) (by simp;lia) fun N U=>⟨rfl,I.turned (fun b o j e=>U b o j e) B A G y J⟩
 self:=fun _ _ _ _ _ g h=>wpAny_pyIter_tupleiter g h
theorem zmo(it)(lo)(n):Turn P w K tg (Itr lo n) [it] it (fun i h=>IsRangeIter h it (lo+(i:Nat)*1) ((n:Int) - (i:Nat)) 1) where
 mem:=by simp
 obj:=fun i h a b c=>by
  simp_all
 keep:=fun i h u a k=>k it (by simp) _ a
 item:=by
  intro X C F B z i j s σ H E I l a m;subst C F B;refine Hd fun Q Y=>?_;obtain⟨r,q,O,y,p,A⟩:=l it (by simp);apply Y
  have W:=Walks.range (prog:=X.prog) (w:=X.w) (I.ok.hd z) it lo 1 n;refine W.item i s _ _ m a fun v u M J g L=>?_
  obtain⟨t,rfl⟩:=J;have G:Inv X _ σ H { s with heap:=u,toks:=M }:=I.turned (fun b o c e=>L b o (by simpa using c) e) r q y p A
  refine⟨_,rfl,zdf g rfl rfl #[1] ⟨.int _,H,G,⟨t,?_⟩,⟨rfl,rfl⟩,g,fun b c=>(l b c).1⟩⟩
  simp
 done:=by
  intro X C F B z i j s σ H E I l a m;refine Hd fun Q Y=>?_;obtain⟨r,q,O,y,p,A⟩:=l it (by simp);apply Y
  exact wpAny_pyNext_range_end (I.ok.hd z) a (by have:n<=i:=m;omega) fun u N=>⟨rfl,I.turned (fun b o c e=>N b o c e) r q y p A⟩
 self:=fun _ _ _ _ _ a h=>wpAny_pyIter_rangeiter a h
def zk5(K:Ybf)(tl:TE):TI:=fun σ H R=>tl σ H fun x H1=>∃ a,x=.ref a/\(∃ xs,SqL K H1 a xs)/\R (Itl K a) H1
def iTup(K:Ybf)(tl:TE):TI:=fun σ H R=>tl σ H fun x H1=>∃ a,x=.ref a/\(∃ xs,SqT K H1 a xs)/\R (Itt K a) H1
theorem zbT(n:PE X l tl):PI X tg l (zk5 X.K tl):=by
 intro g s σ H R I h;refine thn (n _ s σ H _ I h) fun v y ξ=>?_
 refine Hd fun ν ζ=>?_;obtain⟨x,j,c,m,u⟩:=ξ;apply ζ;obtain⟨a,e,⟨z,w⟩,q⟩:=u;subst e;cases m;obtain⟨i,B,p,A⟩:=c.list w;refine wpAny_pyIter_list p.isList ?_;refine⟨_,_,_,_,j,rfl,c.kept fun b o e=>YaW _ e,zka a _,⟨_,Yan _ rfl,rfl,rfl⟩,fun b r=>?_,q⟩
 have e:=by simpa using r
 subst e;exact c.fpOk (YaY _) (c.hok.fresh (YaY _))
theorem zlU(n:PE X l tl):PI X tg l (iTup X.K tl):=by
 intro g s σ H R I h;refine thn (n _ s σ H _ I h) fun v y ξ=>?_
 refine Hd fun ν ζ=>?_;obtain⟨x,j,c,m,u⟩:=ξ;apply ζ;obtain⟨a,e,⟨z,w⟩,q⟩:=u;subst e;cases m;obtain⟨i,B,p,A⟩:=c.tuple w;refine wpAny_pyIter_tuple (p) ?_;refine⟨_,_,_,_,j,rfl,c.kept fun b o e=>YaW _ e,zm0 a _,⟨_,Yan _ rfl,rfl,rfl⟩,fun b r=>?_,q⟩
 have e:=by simpa using r
 subst e;exact c.fpOk (YaY _) (c.hok.fresh (YaY _))
theorem zgD{lo:Int}{u v:Tok}(I:Inv X pins σ H s)(l:-(2 ^ 62)<=lo)(j:lo<2 ^ 62)(g:-(2 ^ 62)<=hi)(c:hi<2 ^ 62)
 (q:R (Itr lo (hi - lo).toNat) H):wpAny (model X.prog X.w) X.A (pyIter (.ref s.heap.objs.size)) (PIE X pins σ tg R) E { s with heap:=s.heap.push { cls:=.type "range", data:=.fields #[.int lo t,.int hi u,.int 1 v] },toks:=tk }:=by
 refine wpAny_pyIter_range (IsRange.new ..) (small_one l j g c) ?_
 have a:Inv X _ σ H { s with heap:=s.heap.push { cls:=.type "range", data:=.fields #[.int lo t,.int hi u,.int 1 v] },toks:=tk }:=I.kept fun b o e=>YaW _ e
 refine⟨_,_,_,_,H,rfl,
  a.kept fun b o e=>YaW _ e,zmo _ lo _,?_,fun b m=>?_,q⟩
 . have h:lo+((0:Nat))*1=lo:=by simp
   have i:(((hi - lo).toNat)) - ((0:Nat))=Builtin.Range.rangeSize lo hi 1:=by rw [rangeSize_one];grind
   rw [h,i];exact Yan _ rfl
 . have e:b=(s.heap.push { cls:=.type "range", data:=.fields #[.int lo t,.int hi u,.int 1 v] }).objs.size:=by grind
   subst e;exact a.fpOk (YaY _) (a.hok.fresh (YaY _))
def zlt(ta:TA):TI:=fun σ H R=>ta σ H fun vs H1=>∃ j:Int,vs=[.int j]/\-(2 ^ 62)<=j/\j<2 ^ 62/\R (Itr 0 j.toNat) H1
def zhC(ta:TA):TI:=fun σ H R=>ta σ H fun vs H1=>∃ i j:Int,vs=[.int i,.int j]/\(-(2 ^ 62)<=i/\i<2 ^ 62/\-(2 ^ 62)<=j/\j<2 ^ 62)/\R (Itr i (j - i).toNat) H1
theorem zc3{ta:TA}(m:Gl X "range")(i:X.mg "range" = none)(o:PA X [a] ta)(u:starEach [a] X.env=[(false,eval a X.env)]:=by rfl):PI X tg (.Call (.Name "range" p) [a] [] pos) (zlt ta):=by
 intro c s σ H R I h;refine Call_ (Js I m i boot_range (Wad (thn (o pos _ s σ H _ I h) fun A y ⟨z,w,g,n,b⟩=>?_) u rfl))
 obtain⟨j,e,b,l,q⟩:=b;subst e;cases n with
 | cons r v=>
  cases v;obtain⟨t,rfl⟩:=r
  exact call_range_1 (zgD g #[0] #[0] b l (by simp_all))
theorem zmE{ta:TA}(v:Gl X "range")(u:X.mg "range" = none)(z:PA X [a,b] ta)(K:starEach [a,b] X.env=[(false,eval a X.env),(false,eval b X.env)]:=by rfl)(g:starEach [b] X.env=[(false,eval b X.env)]:=by rfl) :
 PI X tg (.Call (.Name "range" p) [a,b] [] pos) (zhC ta):=by
 intro m s σ H R I h;refine Call_ (Js I v u boot_range (Wad (thn (z pos _ s σ H _ I h) fun E F ⟨G,C,n,y,c⟩=>?_) #[94] (by rw [g];rfl)))
 obtain⟨i,j,e,⟨c,w,o,A⟩,q⟩:=c;subst e;cases y with
 | cons r l=>
  cases l with
  | cons B l=>
   cases l;obtain⟨t,rfl⟩:=r
   obtain⟨J,rfl⟩:=B;exact call_range_2 (zgD n c w o A q)
def tFor(wi:TI)(g:TG)(tb:TS):TS:=fun D σ H=>wi σ H fun J H1=>∃ W:Nat->Nat->St->Hp->Prop,(∃ m,W 0 m σ H1)/\∀ i m σ H,W i m σ H->
 (J.stop i H/\D.nx σ H)\/(J.go i H/\∃ N:St->Hp->Prop,(∀ σ' H',N σ' H'->∃ m',m'<m/\W (i+1) m' σ' H')/\∀ x H',J.yld i H x H'->g x σ H' fun σ2 H2=>tb { D with nx:=N,ct:=N,bk:=D.nx } σ2 H2)
noncomputable def zbW(fp:List Addr)(h:Heap):List (Addr×Obj):=fp.filterMap fun b=>(h.get? b).map fun o=>(b,o)
theorem zb9{b:Addr}{o:Obj}(a:b∈fp)(e:h.get? b=some o):(b,o)∈zbW fp h:=YD.mpr ⟨b,a,by rw [e];rfl⟩
theorem znB{p:Addr×Obj}(a:p∈zbW fp h):p.1∈fp/\h.get? p.1=some p.2:=by
 obtain⟨b,c,e⟩:=YD.mp a;cases q:h.get? b with
 | none=>simp_all
 | some o=>
  grind
theorem Inv.pinned(I:Inv X pins σ H s)(a:∀ b∈fp,FpOk X pins H b)(j:∀ b∈fp,∃ o,s.heap.get? b=some o/\∀ v,o.data≠.cell v):Inv X (pins++zbW fp s.heap) σ H s:=
 I.pins_of fun p c=>(Ya3.mp c).elim (fun z=>I.pin p (Yaa _ z)) fun z=>by
  obtain⟨g,e⟩:=znB z;obtain⟨i,h,l,_⟩:=a p.1 g
  grind
theorem Inv.unpinned(I:Inv X (pins++pl) σ H s):Inv X pins σ H s:=I.pins_of fun p a=>I.pin p (Yaa _ (Yai _ a))
theorem ZR(M:PassesOwn (model X.prog X.w) X.A X.env X.xe)(hc:X.calm=true)(hi:PI X tg iter wi)(hg:PG X tg g)(w:PSs X body tb)
 (hs:∀ x,foldedSetIterable iter X.env x=pure x:=by intro _;rfl):PS X (.For tg iter body [] pos) (tFor wi g tb):=by
 intro c s σ H D I h;refine wpAny_For (thn (hi c s σ H _ I h) fun v s1 h1=>thn h1 fun a0 s2 h2=>?_) hs
 refine Hd fun k V=>?_;obtain⟨it,P,tn,J,H2,e,I2,T,U,f2,W,⟨m0,w0⟩,F⟩:=h2;apply V;subst e;have l:∀ {A:Hp},(∀ b∈P,A b=none)->∀ b∈P,FpOk X c A b:=fun hn b w=>⟨hn b w,(f2 b w).2⟩
 refine codeAny_forLoop_any (fun n s'=>∃ i q A,Inv X c q A s'/\tn i s'.heap/\(∀ b∈P,A b=none)/\W i n q A) ?_ m0 ⟨0,σ,H2,I2,U,fun b w=>(f2 b w).1,w0⟩
 intro n s3 ζ;refine Hd fun k V=>?_;obtain⟨i,y,Q,I3,G,O,w3⟩:=ζ;apply V
 rcases F i n y Q w3 with ⟨E,qn⟩|⟨go,N,hN,K⟩
 . refine wpAny_passesOwn M (thn (T.done X rfl rfl rfl hc i c s3 y Q X.xe I3 (l O) G E) fun r s4 ⟨Y,I4⟩=>?_)
   subst Y;exact wpAny_execs_nil ⟨y,Q,I4,qn⟩
 . refine wpAny_passesOwn M (thn (T.item X rfl rfl rfl hc i c s3 y Q X.xe I3 (l O) G go) fun r s4 ξ=>?_)
   refine Hd fun ν ζ=>?_;obtain⟨u,Y,h4⟩:=ξ;apply ζ;subst Y;refine wpAny_passesOwn M (thn h4 fun _ s5 ξ=>?_)
   refine Hd fun ν ζ=>?_;obtain⟨x,H5,I5,r5,y5,C,S⟩:=ξ;apply ζ;have Z:=I5.pinned (l S) (T.obj _ _ C);refine wpAny_passesOwn M (thn (hg _ s5 y H5 x u _ Z r5 (K x H5 y5)) fun _ s6 ξ=>?_)
   refine Hd fun ν ζ=>?_;obtain⟨R,H6,I6,q6⟩:=ξ;apply ζ;refine wpAny_passesOwn M (thn (w _ s6 R H6 _ I6 q6) fun f s7 B=>?_)
   have j:∀ {a:St} {z:Hp},Inv X _ a z s7->N a z->∃ m,m<n/\∃ i q A,Inv X c q A s7/\tn i _/\(∀ b∈P,A b=none)/\W i m q A:=fun {a z} p L=>by
    obtain⟨m',hm,w7⟩:=hN a z L;refine⟨m',hm,i+1,a,z,p.unpinned,T.keep _ _ _ C fun b w o e=>(p.pin (b,o) (Yaa _ (Yaa _ (zb9 w e)))).1,fun b w=>?_,w7⟩
    obtain⟨o,e,d⟩:=T.obj _ _ C b w;exact(p.pin _ (Yaa _ (Yaa _ (zb9 w e)))).2.1
   cases f with
   | next=>obtain⟨a,z,p,L⟩:=B;exact j p L
   | cont=>obtain⟨a,z,p,L⟩:=B;exact j p L
   | brk=>obtain⟨a,z,p,B⟩:=B;exact⟨a,z,p.unpinned,B⟩
   | ret v=>obtain⟨x7,a,z,p,r7,B⟩:=B;exact⟨x7,a,z,p.unpinned,r7,B⟩
abbrev R2:=V->V->Hp->VK->Prop
def OpR(X:Cx)(f:Value->Value->Sem Value)(r:R2):Prop:=
 ∀ (pins:List (Addr×Obj)) (s:Shared) (σ : St) (H:Hp) (x y:V) (v u:Value) (Q:VK),Inv X pins σ H s->RelV x v->RelV y u->r x y H Q->
  wpAny (model X.prog X.w) X.A (f v u) (EP X pins σ Q) X.xe s
def UnR(X:Cx)(f:Value->Sem Value)(r:V->Hp->VK->Prop):Prop:=
 ∀ (pins:List (Addr×Obj)) (s:Shared) (σ : St) (H:Hp) (x:V) (v:Value) (Q:VK),Inv X pins σ H s->RelV x v->r x H Q->
  wpAny (model X.prog X.w) X.A (f v) (EP X pins σ Q) X.xe s
def zM(X:Cx)(f:Value)(r:List V->Hp->VK->Prop):Prop:=
 ∀ (pins:List (Addr×Obj)) (s:Shared) (σ : St) (H:Hp) (xs:List V) (us:List Value) (Q:VK),Inv X pins σ H s->Vals xs us->r xs H Q->
  wpAny (model X.prog X.w) X.A (call f us) (EP X pins σ Q) X.xe s
def tOp(r:R2)(ta tb:TE):TE:=fun σ H Q=>ta σ H fun x H1=>tb σ H1 fun y H2=>r x y H2 Q
def tUn(r:V->Hp->VK->Prop)(ta:TE):TE:=fun σ H Q=>ta σ H fun x H1=>r x H1 Q
def rI(C:Int->Int->Prop)(g:Int->Int->V):R2:=fun x y H Q=>∃ i j,x=.int i/\y=.int j/\C i j/\Q (g i j) H
def rI0(g:Int->Int->V):R2:=fun x y H Q=>∃ i j,x=.int i/\y=.int j/\Q (g i j) H
def rU(g:Int->V):V->Hp->VK->Prop:=fun x H Q=>∃ i,x=.int i/\Q (g i) H
section
variable{tb tc:TE}
theorem binT(l:PE X a ta)(p:PE X b tb){R:V->V->Hp->Prop}(I:Inv X pins σ H s)
 (h:ta σ H fun x H1=>tb σ H1 fun y H2=>R x y H2)  {f:Value->Value->Sem Value}
 (c:∀ v u s2 x y H2,Inv X pins σ H2 s2->RelV x v->RelV y u->R x y H2->wpAny (model X.prog X.w) X.A (f v u) Q X.xe s2) :
 wpAny (model X.prog X.w) X.A (eval a X.env) (fun v s₁=>wpAny (model X.prog X.w) X.A (eval b X.env) (fun u s₂=>wpAny (model X.prog X.w) X.A (f v u) Q X.xe s₂) X.xe s₁) X.xe s:=by
 refine thn (l _ s σ H _ I h) fun v i ⟨x,H1,e,m,o⟩=>?_
 refine thn (p _ i σ H1 _ e o) fun u s2 ⟨y,H2,n,g,j⟩=>?_
 exact c v u s2 x y H2 n m g j
theorem Jn{op:Operator}(g:OpR X (binaryOp op) r)(m:PE X a ta)(l:PE X b tb):PE X (.BinOp a op b pos) (tOp r ta tb):=by
 intro c s σ H Q I h;exact wpAny_BinOp (binT m l I h fun v u e x y i n j o q=>g _ e σ i x y v u Q n j o q)
theorem zjv{op:UnaryOp}(g:UnR X (unaryOp op) r)(m:PE X a ta):PE X (.UnaryOp op a pos) (tUn r ta):=by
 intro b s σ H Q I h;exact UnaryOp_ (thn (m _ s σ H _ I h) fun v i zz0 => by obtain ⟨x,e,c,j,l⟩ := zz0; exact g _ i σ e x v Q c j l)
theorem opI{f:Value->Value->Sem Value}{C:Int->Int->Prop}{g:Int->Int->Int}
 (a:∀ (i j:Int) (t u:Tok) (s:Shared) (Q:Value->Shared->Prop) (E:Value->Shared->Prop),C i j->Q (.int (g i j) s.toks) { s with toks:=s.toks+1 }->wpAny (model X.prog X.w) X.A (f (.int i t) (.int j u)) Q E s) :
 OpR X f (rI C fun i j=>.int (g i j)):=by
 intro b s σ H x y v u Q I l c h;obtain⟨i,j,rfl,rfl,m,q⟩:=h;obtain⟨t,rfl⟩:=l;obtain⟨e,rfl⟩:=c;exact a i j t e s _ _ m ⟨.int _,H,I.tok _,⟨_,rfl⟩,q⟩
theorem opI0{f:Value->Value->Sem Value}{g:Int->Int->Int}
 (a:∀ (i j:Int) (t u:Tok) (s:Shared) (Q:Value->Shared->Prop) (E:Value->Shared->Prop),Q (.int (g i j) s.toks) { s with toks:=s.toks+1 }->wpAny (model X.prog X.w) X.A (f (.int i t) (.int j u)) Q E s) :
 OpR X f (rI0 fun i j=>.int (g i j)):=by
 intro b s σ H x y v u Q I l c h;obtain⟨i,j,rfl,rfl,q⟩:=h;obtain⟨t,rfl⟩:=l;obtain⟨e,rfl⟩:=c;exact a i j t e s _ _ ⟨.int _,H,I.tok _,⟨_,rfl⟩,q⟩
theorem opB0{f:Value->Value->Sem Value}{g:Int->Int->Bool}
 (a:∀ (i j:Int) (t u:Tok) (s:Shared) (Q:Value->Shared->Prop) (E:Value->Shared->Prop),Q (.bool (g i j)) s->wpAny (model X.prog X.w) X.A (f (.int i t) (.int j u)) Q E s) :
 OpR X f (rI0 fun i j=>.bl (g i j)):=by
 intro b s σ H x y v u Q I l c h;obtain⟨i,j,rfl,rfl,q⟩:=h;obtain⟨t,rfl⟩:=l;obtain⟨e,rfl⟩:=c;exact a i j t e s _ _ ⟨.bl _,H,I,rfl,q⟩
theorem zdo:OpR X (binaryOp .Add) (rI0 fun i j=>.int (i+j)):=opI0 fun _ _ _ _ _ _ _ q=>add_int q
theorem zaY:OpR X (binaryOp .Sub) (rI0 fun i j=>.int (i - j)):=opI0 fun _ _ _ _ _ _ _ q=>sub_int q
theorem zku:OpR X (binaryOp .Mod) (rI (fun _ j=>0<j) fun i j=>.int (i%j)):=opI fun i j _ _ _ _ _ a q=>mod_int' #[0] (by rw [Int.fmod_eq_emod_of_nonneg i #[0]];exact q)
theorem unI{f:Value->Sem Value}{g:Int->Int}
 (a:∀ (i:Int) (t:Tok) (s:Shared) (Q:Value->Shared->Prop) (E:Value->Shared->Prop),Q (.int (g i) s.toks) { s with toks:=s.toks+1 }->wpAny (model X.prog X.w) X.A (f (.int i t)) Q E s) :
 UnR X f (rU fun i=>.int (g i)):=by
 intro b s σ H x v Q I c h;obtain⟨i,rfl,q⟩:=h;obtain⟨t,rfl⟩:=c;exact a i t s _ _ ⟨.int _,H,I.tok _,⟨_,rfl⟩,q⟩
theorem zjO:UnR X (unaryOp .USub) (rU fun i=>.int (-i)):=unI fun _ _ _ _ _ q=>neg_int q
end
noncomputable def scal:V->V->Bool
 | .non,.non=>true|.non,.int _=>true|.int _,.non=>true|.non,.bl _=>true|.bl _,.non=>true|.non,.str _=>true|.str _,.non=>true
 | .int _,.int _=>true|.bl _,.bl _=>true|.str _,.str _=>true|.byt _,.byt _=>true
 | .int _,.str _=>true|.str _,.int _=>true|.bl _,.str _=>true|.str _,.bl _=>true
 | _,_=>false
def rEq:R2:=fun x y H Q=>scal x y=true/\Q (.bl (decide (x=y))) H
def rNe:R2:=fun x y H Q=>scal x y=true/\Q (.bl (!decide (x=y))) H
theorem zfa{i:Int}:decide (V.int i=V.int j)=(i==j):=by
 rw [Yr]
 simp
theorem zeR{i:Bool}:decide (V.bl i=V.bl j)=(i==j):=by
 rw [Yr]
 simp
theorem zgu{i:Str}:decide (V.str i=V.str j)=(i==j):=by
 rw [Yr]
 simp
theorem zfm{i:Array UInt8}:decide (V.byt i=V.byt j)=(i.toList==j.toList):=by
 rw [Yr]
 simp_all
section
variable{tb tc:TE}
theorem zI{Q:VK}(I:Inv X pins σ H s)(q:Q (.bl k) H)(e:k=k'):EP X pins σ Q (.bool k') s:=by
 subst e;exact⟨.bl k,H,I,rfl,q⟩
theorem zfZ:OpR X (compareOp .Eq) rEq:=by
 intro g s σ H x y v u Q I e a h;obtain⟨c,q⟩:=h;cases x with
 | non=>
  cases e;cases y with
  | non=>cases a;exact PySem.EqNone.eq_none_none (zI I q (by simp))
  | bl j=>cases a;exact PySem.EqNone.eq_none_bool (zI I q (by simp))
  | int j=>obtain⟨b,rfl⟩:=a;exact PySem.EqNone.eq_none_int (zI I q (by simp))
  | str j=>obtain⟨b,rfl⟩:=a;exact PySem.EqNone.eq_none_str (zI I q (by simp))
  | _=>exact absurd (show false=true from c) Yal
 | bl i=>
  cases e;cases y with
  | non=>cases a;exact PySem.EqNone.eq_bool_none (zI I q (by simp))
  | bl j=>cases a;exact eq_bool (zI I q zeR)
  | str j=>obtain⟨b,rfl⟩:=a;exact PySem.EqMixed.eq_bool_str (zI I q (by simp))
  | _=>exact absurd (show false=true from c) Yal
 | int i=>
  obtain⟨t,rfl⟩:=e;cases y with
  | non=>cases a;exact PySem.EqNone.eq_int_none (zI I q (by simp))
  | int j=>obtain⟨b,rfl⟩:=a;exact eq_int (zI I q zfa)
  | str j=>obtain⟨b,rfl⟩:=a;exact PySem.EqMixed.eq_int_str (zI I q (by simp))
  | _=>exact absurd (show false=true from c) Yal
 | str i=>
  obtain⟨t,rfl⟩:=e;cases y with
  | non=>cases a;exact PySem.EqNone.eq_str_none (zI I q (by simp))
  | bl j=>cases a;exact PySem.EqMixed.eq_str_bool (zI I q (by simp))
  | int j=>obtain⟨b,rfl⟩:=a;exact PySem.EqMixed.eq_str_int (zI I q (by simp))
  | str j=>obtain⟨b,rfl⟩:=a;exact eq_str (zI I q zgu)
  | _=>exact absurd (show false=true from c) Yal
 | byt i=>
  obtain⟨t,rfl⟩:=e;cases y with
  | byt j=>obtain⟨b,rfl⟩:=a;exact PySem.W.eq_bytes (zI I q zfm)
  | _=>exact absurd (show false=true from c) Yal
 | _=>cases y<;>exact absurd (show false=true from c) Yal
theorem zge:OpR X (compareOp .NotEq) rNe:=by
 intro g s σ H x y v u Q I e a h;obtain⟨c,q⟩:=h;cases x with
 | non=>
  cases e;cases y with
  | non=>cases a;exact PySem.EqNone.ne_none_none (zI I q (by simp))
  | bl j=>cases a;exact PySem.EqNone.ne_none_bool (zI I q (by simp))
  | int j=>obtain⟨b,rfl⟩:=a;exact PySem.EqNone.ne_none_int (zI I q (by simp))
  | str j=>obtain⟨b,rfl⟩:=a;exact PySem.EqNone.ne_none_str (zI I q (by simp))
  | _=>exact absurd (show false=true from c) Yal
 | bl i=>
  cases e;cases y with
  | non=>cases a;exact PySem.EqNone.ne_bool_none (zI I q (by simp))
  | bl j=>cases a;exact ne_bool (zI I q (congrArg not zeR))
  | str j=>obtain⟨b,rfl⟩:=a;exact PySem.EqMixed.ne_bool_str (zI I q (by simp))
  | _=>exact absurd (show false=true from c) Yal
 | int i=>
  obtain⟨t,rfl⟩:=e;cases y with
  | non=>cases a;exact PySem.EqNone.ne_int_none (zI I q (by simp))
  | int j=>obtain⟨b,rfl⟩:=a;exact ne_int (zI I q (congrArg not zfa))
  | str j=>obtain⟨b,rfl⟩:=a;exact PySem.EqMixed.ne_int_str (zI I q (by simp))
  | _=>exact absurd (show false=true from c) Yal
 | str i=>
  obtain⟨t,rfl⟩:=e;cases y with
  | non=>cases a;exact PySem.EqNone.ne_str_none (zI I q (by simp))
  | bl j=>cases a;exact PySem.EqMixed.ne_str_bool (zI I q (by simp))
  | int j=>obtain⟨b,rfl⟩:=a;exact PySem.EqMixed.ne_str_int (zI I q (by simp))
  | str j=>obtain⟨b,rfl⟩:=a;exact ne_str (zI I q (congrArg not zgu))
  | _=>exact absurd (show false=true from c) Yal
 | byt i=>
  obtain⟨t,rfl⟩:=e;cases y with
  | byt j=>obtain⟨b,rfl⟩:=a;exact PySem.W.ne_bytes (zI I q (congrArg not zfm))
  | _=>exact absurd (show false=true from c) Yal
 | _=>cases y<;>exact absurd (show false=true from c) Yal
theorem zeS:OpR X (compareOp .Lt) (rI0 fun i j=>.bl (decide (i<j))):=opB0 fun _ _ _ _ _ _ _ q=>lt_int q
theorem zjV:OpR X (compareOp .LtE) (rI0 fun i j=>.bl (decide (i<=j))):=opB0 fun _ _ _ _ _ _ _ q=>le_int q
theorem zng:OpR X (compareOp .Gt) (rI0 fun i j=>.bl (decide (j<i))):=opB0 fun _ _ _ _ _ _ _ q=>gt_int q
theorem zkv:OpR X (compareOp .GtE) (rI0 fun i j=>.bl (decide (j<=i))):=opB0 fun _ _ _ _ _ _ _ q=>ge_int q
theorem znJ:OpR X (compareOp .Is) (fun x y H Q=>y=.non/\Q (.bl (decide (x=.non))) H):=by
 intro a s σ H x y v u Q I c b h;obtain⟨rfl,q⟩:=h;cases b;refine is_none_gen (zI I q ?_);cases x<;>first
  | (rfl)
  | (obtain⟨t,rfl⟩:=c;rfl)
theorem zmk:OpR X (compareOp .IsNot) (fun x y H Q=>y=.non/\Q (.bl (!decide (x=.non))) H):=by
 intro a s σ H x y v u Q I c b h;obtain⟨rfl,q⟩:=h;cases b;refine isnot_none_gen (zI I q ?_);cases x<;>first
  | (rfl)
  | (obtain⟨t,rfl⟩:=c;rfl)
theorem OpR.or(h:OpR X f r)(h':OpR X f r'):OpR X f (fun x y H Q=>r x y H Q\/r' x y H Q):=by
 intro b s σ H x y v u Q I c a q
 rcases q with q|q
 . exact h _ s σ H x y v u Q I c a q
 . exact h' _ s σ H x y v u Q I c a q
theorem nomark(b)(h:op≠.In:=by decide)(e:op≠.NotIn:=by decide):behindInMarks op b=false:=nobehind b h e
theorem znC(g:OpR X (compareOp op) r)(n:PE X a ta)(m:PE X b tb)(i:behindInMarks op b=false):PE X (.Compare a [op] [b] pos) (tOp r ta tb):=by
 intro c s σ H Q I h;exact wpAny_Compare1 (binT n m I h fun v u e x y j o l p q=>g _ e σ j x y v u Q o l p q) i
def zaN(t:TE):TT:=fun σ H Q=>t σ H fun x H'=>∃ k,x=.bl k/\Q k H'
theorem zbo(n:OpR X (compareOp op) r)(B:PE X a ta)(A:PE X b tb)(o:behindInMarks op b=false):PT X (.Compare a [op] [b] pos) (zaN (tOp r ta tb)):=by
 intro g s σ H Q I h;refine wpAny_isTrue_Compare1 (thn (B _ s σ H _ I h) fun v p ⟨x,m,i,w,K⟩=>thn (A _ p σ m _ i K) fun u l ⟨y,F,J,E,q⟩=>
  thn (n _ l σ F x y v u _ J w E q) fun c M ξ=>?_) o
 refine Hd fun ν ζ=>?_;obtain⟨z,G,L,C,k,e,j⟩:=ξ;apply ζ;subst e;cases C;exact wpAny_truthy_bool ⟨G,L,j⟩
def zg0(r r':R2)(ta tb tc:TE):TE:=fun σ H Q=>ta σ H fun x H1=>tb σ H1 fun y H2=>r x y H2 fun z H3=>∃ k,z=.bl k/\
 (if k=true then tc σ H3 fun w' H4=>r' y w' H4 Q else Q (.bl false) H3)
theorem zjp(A:OpR X (compareOp op) r)(g:OpR X (compareOp op') r')(N:PE X a ta)(M:PE X b tb)(hc:PE X c tc)
 (C:lastMarks [op,op'] [b,c]=false:=by with_unfolding_all rfl):PT X (.Compare a [op,op'] [b,c] pos) (zaN (zg0 r r' ta tb tc)):=by
 intro n s σ H Q I h;refine isTrue_chain (thn (N _ s σ H _ I h) fun v F ⟨x,q,o,L,Z⟩=>test_link (thn (M _ F σ q _ o Z) fun u p ⟨y,U,Y,j,G⟩=>
  thn (A _ p σ U x y v u _ Y L j G) fun d E ξ=>?_)) C
 refine Hd fun ν ζ=>?_;obtain⟨z,l,m,R,k,e,i⟩:=ξ;apply ζ;subst e;cases R;refine wpAny_truthy_bool ?_;cases k with
 | false=>
  obtain⟨k',e',B⟩:=i;cases e';exact ite_ff ⟨l,m,B⟩
 | true=>
  refine ite_tt (test_last (thn (hc _ E σ l _ m i) fun S s4 ⟨z',H4,P,O,q4⟩=>thn (g _ s4 σ H4 y z' u S _ P j O q4) fun d' s5 ξ=>?_))
  refine Hd fun ν ζ=>?_;obtain⟨z2,T,J,W,k2,w,K⟩:=ξ;apply ζ;subst w;cases W;exact wpAny_truthy_bool ⟨T,J,K⟩
theorem JD:(sizeLine:Nat)<2 ^ 63:=by rw [sizeLine_eq];decide
theorem zjl:OpR X (binaryOp .Add) (fun x y H Q=>∃ i j,x=.str i/\y=.str j/\i.length+j.length<=sizeLine/\Q (.str (i++j)) H):=by
 intro a s σ H x y v u Q I g b h;obtain⟨i,j,rfl,rfl,c,q⟩:=h;obtain⟨t,rfl⟩:=g;obtain⟨e,rfl⟩:=b;exact add_str (fun e l=>⟨.str _,H,I.tok _,⟨_,rfl⟩,q⟩) c
theorem Jl(r:Vals [x] us):∃ u,us=[u]/\RelV x u:=by
 cases r with
 | cons b a=>cases a;simp_all
theorem zc6(r:Vals [x,y] us):∃ u w',us=[u,w']/\RelV x u/\RelV y w':=by
 cases r with
 | cons a b=>
  cases b with
  | cons c e=>cases e;exact⟨_,_,rfl,a,c⟩
theorem znc:zM X (.builtin "abs") (fun xs H Q=>∃ i,xs=[.int i]/\Q (.int (if i<0 then -i else i)) H):=by
 intro a s σ H xs b Q I r h;obtain⟨i,rfl,q⟩:=h;obtain⟨u,rfl,t,rfl⟩:=Jl r;exact call_abs_int fun u c=>⟨.int _,H,I.tok _,⟨_,rfl⟩,q⟩
theorem zmF(c:X.calm=true):zM X (.builtin "max") (fun xs H Q=>∃ i j,xs=[.int i,.int j]/\Q (.int (if j > i then j else i)) H):=by
 intro b s σ H xs m Q I r h;obtain⟨i,j,rfl,q⟩:=h;obtain⟨u,e,rfl,⟨t,rfl⟩,⟨l,rfl⟩⟩:=zc6 r;refine max_two_ints (I.ok.hd c) fun g n k=>⟨_,H,I.kept k,?_,q⟩
 by_cases a:j > i
 . rw [if_pos a,if_pos a];exact⟨_,rfl⟩
 . rw [if_neg a,if_neg a];exact⟨_,rfl⟩
theorem zmZ(c:X.calm=true):zM X (.builtin "min") (fun xs H Q=>∃ i j,xs=[.int i,.int j]/\Q (.int (if j<i then j else i)) H):=by
 intro b s σ H xs m Q I r h;obtain⟨i,j,rfl,q⟩:=h;obtain⟨u,e,rfl,⟨t,rfl⟩,⟨l,rfl⟩⟩:=zc6 r;refine min_two_ints (I.ok.hd c) fun g n k=>⟨_,H,I.kept k,?_,q⟩
 by_cases a:j<i
 . rw [if_pos a,if_pos a];exact⟨_,rfl⟩
 . rw [if_neg a,if_neg a];exact⟨_,rfl⟩
end
structure ObjM(h:Heap)(x dx C:Addr)(mA:Str->Option Value):Prop where
 obj:h.get? x=some (XR C dx)
 ns:h.Ns1 dx mA
 ne:dx≠x
theorem zjh(n:h.Ns1 dx mA):∃ od,h.get? dx=some od/\∀ name,Wq name od=some (mA name):=by
 obtain⟨o,m,p,g,l,c,_,i⟩:=n;refine⟨o,g,fun name=>?_⟩
 have e:=i name;unfold nsFind findBy at e;unfold Wq;rw [l];dsimp only
 split
 . simp_all
 . have a:m.toList.any (·.refKey)=false:=by
    rw [WD];intro y j;obtain⟨z,t,b⟩:=c y (Array.mem_toList_iff.mp j)
    simp [DictEntry.refKey,b]
   grind
theorem ObjM.look(I:ObjM h x dx C mA):∃ od,PySem.W.InstAt h x (XR C dx) C (some od)/\∀ name,Wq name od=some (mA name):=
 let ⟨od,ho,hl⟩:=zjh I.ns
 ⟨od,⟨I.obj,rfl,rfl,ho⟩,hl⟩
section
variable{x f:Addr}{name:Str}
theorem zik(X:K.In s.heap)(I:ObjM s.heap x dx C mA)(b:Yj K C name=true)(c:X8 K C=true)
 (e:Xv K (.ref C) name=some none) (g:mA name=some v) (a:WQ v=true) (h:Q v { s with toks:=s.toks+1 }) :
 wpAny (model prog w) A (getAttr (.ref x) name expr) Q E s:=by
 obtain⟨i,J,j⟩:=I.look;exact PySem.W.get_value X J (PySem.W.plainGet_of b).1 (PySem.W.findObj_own c e rfl (by grind)) a h
theorem zmh{Q:Unit->Shared->Prop}(X:K.In s.heap)(I:ObjM s.heap x dx C mA)
 (z:Xv K (.ref C) "__setattr__" = some (some (.builtin "object.__setattr__"))) (m:YO K C=true) (l:We K C name=some none) (p:X8 K C=true)
 (u:Wd mA ns) (r:ns.length<=sizeLine)
 (h:∀ h',ObjM h' x dx C (fun y=>if y=name then some v else mA y)->Yh dx s.heap h'->Q () { s with heap:=h',toks:=s.toks+2 }) :
 wpAny (model prog w) A (setAttr (.ref x) name v) Q E s:=by
 obtain⟨G,J,F⟩:=I.look;refine PySem.W.set_plain X J z (PySem.W.osa_open X J m l fun b=>?_)
 obtain⟨L,q,g⟩:=PySem.W.any_some p;have n:=I.obj;refine wpAny_bind (wpAny_pure (wpAny_bind (wpAny_bind (wpAny_loadPart n (wpAny_bind (PySem.W.Looks.here (PySem.W.looks_clsIn X q) ?_))))));rw [g];refine wpAny_pure (wpAny_bind (wpAny_pure (wpAny_bind ?_)));refine wpAny_nsSet1 I.ns fun h' a c=>?_
 obtain⟨H,o,B,j,i,e⟩:=a.count (Wd.cons _ v u);refine wpAny_bind (wpAny_lookBehind j (by rw [i];exact pastItsLine_dict (Ya5 e (by grind))) ?_)
 exact wpAny_pure (h _ ⟨(c.2 _ (WbA I.ne)).trans I.obj,a,I.ne⟩ c)
theorem zkW{vs:List Value}(X:K.In s.heap)(c:Wg K C=true)
 (e:Xv K (.ref C) "__init__" = some (some (.ref f))) (b:PySem.W.typeIn K (.ref f)=some (.type "function"))
 (h:codeAny (model prog w) (A.under (.builtin "type.__call__" ⟨.ref C::vs,kw⟩)) (.call (.ref f) ⟨.ref (s.heap.objs.size+1)::vs,kw⟩) (PySem.W.InitBack (s.heap.objs.size+1) R)
  { s with heap:=(s.heap.push X9).push (XR C s.heap.objs.size) }) :
 codeAny (model prog w) A (.call (.ref C) ⟨vs,kw⟩) R s:=PySem.W.make_core (PySem.W.makes_of X c) (PySem.W.looks_findIn X e) (fun a=>PySem.W.bind_fn X _ b) (.inl rfl) h
end
noncomputable def putF(f:Str)(v:V):List (Str×V)->List (Str×V)
 | []=>[(f,v)]
 | (g,x)::r=>if g=f then(g,v)::r else(g,x)::putF f v r
theorem zgl(f g:Str)(v:V):∀ fs:List (Str×V),(putF f v fs).lookup g=if g=f then some v else fs.lookup g
 | [] => by
  show W1 g [(f,v)]=_
  grind
 | (k, x) :: r => by
  have a:=zgl f g v r;rw [show putF f v _=(if k=f then(k,v)::r else(k,x)::putF f v r) from rfl]
  grind
theorem zdZ(f:Str)(v:V):∀ fs:List (Str×V),f∈(putF f v fs).map (·.1)/\∀ g,g∈fs.map (·.1)->g∈(putF f v fs).map (·.1)
 | []=>⟨by simp [putF],fun g h=>by simp at h⟩
 | (k, x) :: r => by
  obtain⟨a,b⟩:=zdZ f v r;rw [show putF f v _=(if k=f then(k,v)::r else(k,x)::putF f v r) from rfl]
  grind
theorem zeE(f:Str)(v:V):∀ fs:List (Str×V),(putF f v fs).length<=fs.length+1
 | []=>by simp [putF]
 | (k, x) :: r => by
  have a:=zeE f v r;rw [show putF f v _=(if k=f then(k,v)::r else(k,x)::putF f v r) from rfl]
  grind
theorem RelO.some_of{v:V}{o:Option Value}(r:RelO (some v) o):∃ u,o=some u/\RelV v u:=by
 cases o with
 | none=>exact(r).elim
 | some u=>exact⟨u,rfl,r⟩
theorem ziu{v:V}(r:RelV v u):WQ u=true:=by
 cases v with
 | non=>cases(r);rfl
 | bl b=>cases(r);rfl
 | int i=>obtain⟨t,e⟩:=(r);cases e;rfl
 | str x=>obtain⟨t,e⟩:=(r);cases e;rfl
 | byt b=>obtain⟨t,e⟩:=(r);cases e;rfl
 | flt b=>obtain⟨t,e⟩:=(r);cases e;rfl
 | ref a=>cases(r);rfl
 | ty n=>cases(r);rfl
section
variable{H':Hp}{a:Addr}{fs fs':List (Str×V)}
theorem zfi(b:HOk P w H h)(e:H a=some (.ins C dx fs)):∃ mA,ObjM h a dx C mA/\(∀ f,RelO (fs.lookup f) (mA f))/\Wd mA (fs.map (·.1))/\fs.length<=1000/\H dx=some (.own a):=by
 refine Hd fun G k=>?_;obtain⟨d,z,c,g,mA,n,r,q⟩:=(b a _ e);apply k;exact⟨mA,⟨g,n,c⟩,r,q,z,d⟩
end
structure Cls(K:Ybf)(C:Addr):Prop where
 pg:Yj K C Str.empty=true
 hd:X8 K C=true
 po:YO K C=true
 sa:Xv K (.ref C) "__setattr__" = some (some (.builtin "object.__setattr__"))
theorem Cls.get(c:Cls K C)(f):Yj K C f=true:=c.pg
def zO(K:Ybf)(C:Addr)(f:Str):Prop:=Xv K (.ref C) f=some none
theorem zO.taker(n:zO K C f):We K C f=some none:=by
 unfold We;rw [n]
 rfl
section
variable{a:Addr}{fs:List (Str×V)}{f:Str}{v:V}
theorem zl7{b:Bool}(I:Inv X pins σ H s)(e:H a=some (.ins C dx fs))(c:Cls X.K C)(n:zO X.K C f)(l:fs.lookup f=some v)
 (h:∀ u s',Inv X pins σ H s'->RelV v u->Q u s'):wpAny (model X.prog X.w) A (getAttr (.ref a) f b) Q E s:=by
 obtain⟨j,O,r,_,_,_⟩:=zfi I.hok e;obtain⟨u,i,g⟩:=RelO.some_of (by rw [<-l];exact r f)
 exact zik I.kIn O (c.get f) c.hd n i (ziu g) (h u _ (I.tok _) g)
theorem znu{Q:Unit->Shared->Prop}(I:Inv X pins σ H s)(e:H a=some (.ins C dx fs))(c:Cls X.K C)(n:zO X.K C f)(K:fs.length<1000)(w:RelV y u)
 (h:∀ s',Inv X pins σ (upd H a (.ins C dx (putF f y fs))) s'->Q () s'):wpAny (model X.prog X.w) A (setAttr (.ref a) f u) Q E s:=by
 refine Hd fun k N=>?_;obtain⟨J,O,r,l,_,j⟩:=zfi I.hok e;apply N;have B:(fs.map (·.1)).length<=sizeLine:=by rw [YaR,sizeLine_eq];lia
 refine zmh I.kIn O c.sa c.po n.taker c.hd l B fun m i F=>h _ ?_
 have G:∃ o,m.get? dx=some o:=let ⟨o,_,_,e',_⟩:=i.ns;⟨o,e'⟩;refine I.write (by rw [e];exact XF) (.inr j) (fun b q v z=>(F.2 b v).trans z) G ?_
 refine⟨by rw [zc O.ne];exact j,?_,O.ne,i.obj,_,i.ns,fun g=>?_,fun g p=>?_⟩
 . have:=zeE f y fs;lia
 . rw [zgl]
   by_cases q:g=f
   . rw [if_pos q,if_pos q];exact w
   simp_all
 . by_cases q:g=f
   . rw [q];exact(zdZ f y fs).1
   . refine(zdZ f y fs).2 g (l g fun z=>p ?_)
     simp_all
theorem Inv.made(I:Inv X pins σ H s):Inv X pins σ (upd (upd H s.heap.objs.size (.own (s.heap.objs.size+1))) (s.heap.objs.size+1) (.ins C s.heap.objs.size []))
 { s with heap:=(s.heap.push X9).push (XR C s.heap.objs.size) }:=by
 have c:(s.heap.push X9).get? _=some _:=Yan _ rfl;have j:=by
  have:=Yan (s.heap.push X9) (o:=XR C s.heap.objs.size) rfl;rwa [Wba] at this
 have h:(s.heap.push _).Ns _ _:=⟨_,#[],_,c,rfl,(fun e i=>absurd i (by simp)),fun _=>rfl⟩
 have g:=I.laid (o:=.own (s.heap.objs.size+1)) (t':=s.toks) (fun b u q=>YaW _ q) (YaY _) ⟨_,c⟩
 refine g.laid (fun b u q=>YaW _ q) (Uo (Wba _ _)) ?_
 have a:s.heap.objs.size≠s.heap.objs.size+1:=Yaf (WaV _);refine⟨by rw [zc a,zf],Wby _,a,j,_,(Heap.Ns1.of_empty h).at fun o q=>YaW _ q,fun _=>XF,fun y l=>absurd rfl l⟩
theorem zk7(a:attributeBase e f env (eval e env)=eval e env)
 (h:wpAny (model prog w) A (eval e env) (fun o s₁=>wpAny (model prog w) A (getAttr o f true) Q E s₁) E s):wpAny (model prog w) A (eval (.Attribute e f pos) env) Q E s:=
 Attribute_any_ h (by rw [arm_eval_Attribute,a])
end
def tFld(K:Ybf)(ta:TE)(f:Str):TE:=fun σ H Q=>ta σ H fun x H1=>∃ a C dx fs v,x=.ref a/\H1 a=some (.ins C dx fs)/\Cls K C/\zO K C f/\fs.lookup f=some v/\Q v H1
def sFld(K:Ybf)(ta tv:TE)(f:Str):TS:=fun D σ H=>tv σ H fun y H1=>ta σ H1 fun x H2=>∃ a C dx fs,x=.ref a/\H2 a=some (.ins C dx fs)/\Cls K C/\zO K C f/\fs.length<1000/\
 D.nx σ (upd H2 a (.ins C dx (putF f y fs)))
section
variable{value:Expr}{f:Str}{tpos:Pos}{tv:TE}
theorem jB(j:PE X e ta)(y:attributeBase e f X.env (eval e X.env)=eval e X.env):PE X (.Attribute e f pos) (tFld X.K ta f):=by
 intro b s σ H Q I h;refine zk7 y (thn (j _ s σ H _ I h) fun u B ξ=>?_)
 refine Hd fun ν ζ=>?_;obtain⟨x,m,g,r,a,C,E,F,v,i,p,c,n,l,q⟩:=ξ;apply ζ;subst i;obtain rfl:u=Xs a:=r;exact zl7 g p c n l fun A z w o=>⟨v,m,w,o,q⟩
theorem za1(r:PE X o ta)(g:PE X value tv)(w:swapsWith value (some (.Attribute o f pos')) pos.line X.env=pure false):PS X (.Assign [.Attribute o f pos'] value pos) (sFld X.K ta tv f):=by
 intro b s σ H D I h;refine plainObj_wpAny_Assign_Attribute (thn (g _ s σ H _ I h) fun u m ⟨y,j,e,v,q⟩=>thn (r _ m σ j _ e q) fun z G ξ=>?_) w
 refine Hd fun ν ζ=>?_;obtain⟨x,K,E,B,a,C,L,M,i,A,c,n,l,p⟩:=ξ;apply ζ;subst i;obtain rfl:z=Xs a:=B;exact znu E A c n l v fun J F=>⟨σ,_,F,p⟩
end
section
variable{c:Value}{b:Bool}
end
structure Room(k:Nat)(A:Around):Prop where
 hd:A.handled=none
 dp:A.depth+3*k+5<recursionLimit
 un:A.units+16*k+200<cLine
theorem Room.mono(r:Room k A)(h:j<=k):Room j A:=⟨r.hd,by have:=r.dp;lia,by have:=r.un;lia⟩
theorem Room.deeper(r:Room (k+1) A)(env):Room k (A.deeper env):=
 ⟨r.hd,by have:=r.dp;show A.depth+1+3*k+5<_;lia,by have:=r.un;show A.units+3+16*k+200<_;lia⟩
theorem Room.in1(r:Room (k+1) A):Room k A.in1:=
 ⟨r.hd,by have:=r.dp;grind,by have:=r.un;grind⟩
theorem zhv:(A.under (.builtin "type.__call__" ⟨.ref C::us,kw⟩)).depth=A.depth+1:=by
 first|rfl|simp
theorem ziw:(A.under (.builtin "type.__call__" ⟨.ref C::us,kw⟩)).units=A.units+1:=by
 first|rfl|simp
theorem Room.make(r:Room (k+1) A)(C)(b)(a):Room k (A.under (.builtin "type.__call__" ⟨.ref C::b,a⟩)):=
 ⟨r.hd,by have:=r.dp;rw [zhv];lia,by have:=r.un;rw [ziw];lia⟩
theorem Room.depth(r:Room k A):A.depth<recursionLimit:=by have:=r.dp;omega
theorem Room.units(r:Room k A):A.units+64<cLine:=by have:=r.un;omega
def tNil:TA:=fun _ H Q=>Q [] H
def zis(ta:TE)(tr:TA):TA:=fun σ H Q=>ta σ H fun x H1=>tr σ H1 fun xs H2=>Q (x::xs) H2
section
variable{t:TA}
theorem zJ:PA X [] tNil:=fun _ _ _ _ H Q I h=>YQ ⟨[],H,I,.nil,h⟩
theorem zn(o:PE X e te)(r:PA X es t)(v:starEach (e::es) X.env=(false,eval e X.env)::starEach es X.env:=by rfl):PA X (e::es) (zis te t):=by
 intro a b s σ H Q I h;rw [v];refine WaD (thn (o _ s σ H _ I h) fun u j ξ=>?_)
 refine Hd fun ν ζ=>?_;obtain⟨x,i,c,n,p⟩:=ξ;apply ζ;exact thn (r a _ j σ i _ c p) fun z w zz0 => by obtain ⟨y,m,q,g,l⟩ := zz0; exact ⟨_,m,q,.cons n g,l⟩
def tTup(t:TA):TE:=fun σ H Q=>t σ H fun xs H1=>xs.length<=sizeLine/\∀ p,H1 p=none->Q (.ref p) (upd H1 p (.tup xs))
def tLst(t:TA):TE:=fun σ H Q=>t σ H fun xs H1=>xs.length<=sizeLine/\∀ p,H1 p=none->Q (.ref p) (upd H1 p (.lst xs))
theorem zbS(h:PA X es t):PE X (.Tuple es x1 pos) (tTup t):=by
 intro c s σ H Q I j;refine wpAny_Tuple_spliced (thn (h pos _ s σ H _ I j) fun i m ⟨n,l,a,r,z,q⟩=>⟨by rw [<-r.length];exact z,?_⟩)
 have g:=a.hok.fresh (YaY _);refine⟨.ref _,_,a.laid (fun b u e=>YaW _ e) (YaY _) ?_,rfl,q _ g⟩
 exact⟨z,i,r,⟨_,Yan _ rfl,rfl,_,rfl⟩⟩
theorem zbV(h:PA X es t):PE X (.List es pos) (tLst t):=by
 intro c s σ H Q I j;refine wpAny_List_spliced (thn (h pos _ s σ H _ I j) fun i m ⟨n,l,a,r,z,q⟩=>⟨by rw [<-r.length];exact z,?_⟩)
 have g:=a.hok.fresh (YaY _);refine⟨.ref _,_,a.laid (fun b u e=>YaW _ e) (YaY _) ?_,rfl,q _ g⟩
 exact⟨z,i,0,r,Yan _ rfl⟩
end
abbrev Sp:=List V->Hp->VK->XK->Prop
abbrev CXT:=List Env->Hp->Shared->XK->Value->Shared->Prop
structure Env0(P:Program)(w:World)(K:Ybf)(mg:Str->Option Value)(base:Heap)(A:Around)(outer:List Env)(s:Shared)(H:Hp):Prop where
 frames:A.frames=some outer
 mod:Mod K mg base
 bs:∀ b o,base.get? b=some o->s.heap.get? b=some o/\H b=none
 bsz:base.objs.size<=s.heap.objs.size
 funs:s.heap.FunFrames base outer
 frf:∀ b∈frs outer,H b=none
 hok:HOk P w H s.heap
 bare:AllBare s.gens
def CE(outer:List Env)(P:Program)(w:World)(H:Hp)(s:Shared)(Q:VK)(u:Value)(s':Shared):Prop:=
 ∃ v H',s'.os=s.os/\AllBare s'.gens/\Un (frs outer) [] H H' s.heap s'.heap/\HOk P w H' s'.heap/\RelV v u/\Q v H'
def CR(CX:CXT)(outer:List Env)(P:Program)(w:World)(H:Hp)(s:Shared)(Q:VK)(E:XK)(r:Result)(s':Shared):Prop:=
 match r with
 | .ok (.ret u)=>CE outer P w H s Q u s'
 | .ok _=>False
 | .error e=>CX outer H s E e s'
structure FnOk(P:Program)(w:World)(K:Ybf)(mg:Str->Option Value)(base:Heap)(CX:CXT)(k:Nat)(f:Addr)(fd:FuncData)(ps:List Str)(sp:Sp):Prop where
 len:∀ vs H Q E,sp vs H Q E->vs.length=ps.length
 run:∀ (A:Around) (outer:List Env) (s:Shared) (H:Hp) (args:Args) (us:List Value) (vs:List V) (Q:VK) (E:XK),Room k A->Env0 P w K mg base A outer s H->BindsTo s fd args (ps.zip us)->Vals vs us->sp vs H Q E->
  codeAny (model P w) A (.call (.ref f) args) (CR CX outer P w H s Q E) s
theorem Env0.make(e:Env0 P w K mg base A outer s H)(C)(b)(a) :
 Env0 P w K mg base (A.under (.builtin "type.__call__" ⟨.ref C::b,a⟩)) outer s H:=⟨by first|exact e.frames|grind,e.mod,e.bs,e.bsz,e.funs,e.frf,e.hok,e.bare⟩
section
variable{s':Shared}
theorem Inv.env0(I:Inv X pins σ H s):Env0 X.prog X.w X.K X.mg X.base X.A X.stack s H:=
 ⟨I.ok.frames,I.ok.mod,I.bs,Ya5 I.ok.bsz I.sz,I.stack,I.stkFree,I.hok,I.bare⟩
theorem Inv.after{Q:VK}(I:Inv X pins σ H s)(h:CE X.stack X.prog X.w H s Q u s'):EP X pins σ Q u s':=by
 obtain⟨v,i,j,a,l,e,r,q⟩:=h;obtain⟨m,g,d,t,c⟩:=s';obtain rfl:c=s.os:=j;exact⟨v,i,I.call l e a (fun b z=>absurd z (by simp)),r,q⟩
end
def zen(sp:Sp)(dvs:List V)(E:XK)(t:TA):TE:=fun σ H Q=>t σ H fun vs H1=>sp (vs++dvs) H1 Q E
def zne(C:Addr)(sp:Sp)(dvs:List V)(E:XK)(t:TA):TE:=fun σ H Q=>t σ H fun vs H1=>∀ x dx,H1 x=none->H1 dx=none->dx≠x->
 sp (.ref x::(vs++dvs)) (upd (upd H1 dx (.own x)) x (.ins C dx [])) (fun v H2=>v=.non/\Q (.ref x) H2) E
def Binds(K:Ybf)(fd:FuncData)(ps:List Str)(ds:List Value):Prop:=
 ∀ (s:Shared) (us:List Value),K.In s.heap->(us++ds).length=ps.length->BindsTo s fd ⟨us,[]⟩ (ps.zip (us++ds))
theorem Binds.all(h:∀ us:List Value,us.length=ps.length->bindArgs fd ⟨us,[]⟩=pure (ps.zip us)):Binds K fd ps []:=fun s us _ a=>by
 rw [Yao] at a ⊢;exact .of_eq (h us a)
def Passes(CX:CXT)(X:Cx)(E:XK):Prop:=∀ (pins:List (Addr×Obj)) (σ : St) (H:Hp) (s:Shared) (e:Value) (s':Shared),Inv X pins σ H s->CX X.stack H s E e s'->X.xe e s'
section
variable{CX:CXT}{k:Nat}{f:Addr}{sp:Sp}{dvs:List V}{ds:List Value}{E:XK}{x m:Str}{apos:Pos}{t:TA}
theorem zjZ{Q:VK}(F:FnOk X.prog X.w X.K X.mg X.base CX k f fd ps sp)(i:Room k X.A)(n:Binds X.K fd ps ds)(j:Vals dvs ds)(g:Passes CX X E)
 (I:Inv X pins σ H s) (r:Vals vs us) (h:sp (vs++dvs) H Q E):wpAny (model X.prog X.w) X.A (call (.ref f) us) (EP X pins σ Q) X.xe s:=by
 have b:=r.append j;have m:(us++ds).length=ps.length:=by rw [<-b.length];exact F.len _ _ _ _ h
 refine wpAny_call (codeAny_mono (F.run X.A _ s H _ _ _ Q E i I.env0 (n s us I.kIn m) b h) fun r c a=>?_)
 cases r with
 | error e=>exact g _ σ H s e c I a
 | ok l=>
  cases l with
  | ret u=>exact I.after a
  | next=>exact Xj a
  | brk=>exact Xj a
  | cont=>exact Xj a
theorem ziS(F:FnOk X.prog X.w X.K X.mg X.base CX k f fd ps sp)(v:Room k X.A)(n:Gl X x)(l:X.mg x=some (.ref f))(i:XD X.K (.ref f)=true)(u:Binds X.K fd ps ds)(w:Vals dvs ds)(m:Passes CX X E)
 (o:PA X (e::es) t) (b:(x==("__debug__" : Str))=false:=by decide) (j:starEach (e::es) X.env=(false,eval e X.env)::starEach es X.env:=by rfl) (a:(backTo pos (starEach es X.env)).any (·.1)=false:=by rfl) :
 PE X (.Call (.Name x p) (e::es) [] pos) (zen sp dvs E t):=by
 intro g s σ H Q I h;refine wpAny_Call_Name_kw (zbH I n l ?_ b);refine Wu I.ok.mod.kin i (thn (o pos _ s σ H _ I h) fun B z ⟨A,y,c,r,q⟩=>⟨c.kIn,?_⟩) j a
 exact zjZ F v u w m c r q
structure Mk(K:Ybf)(C f:Addr):Prop where
 makes:Wg K C=true
 init:Xv K (.ref C) "__init__" = some (some (.ref f))
 fn:Up K (.ref f)=true
 kp:XD K (.ref C)=true
theorem zmr{Q:VK}(M:Mk X.K C f)(F:FnOk X.prog X.w X.K X.mg X.base CX k f fd ps sp)(w:Room (k+1) X.A)(p:Binds X.K fd ps ds)(y:Vals dvs ds)
 (n:Passes CX X E) (I:Inv X pins σ H s) (r:Vals vs us)
 (h:∀ x dx,H x=none->H dx=none->dx≠x->sp (.ref x::(vs++dvs)) (upd (upd H dx (.own x)) x (.ins C dx [])) (fun v H2=>v=.non/\Q (.ref x) H2) E) :
 wpAny (model X.prog X.w) X.A (call (.ref C) us) (EP X pins σ Q) X.xe s:=by
 have g:=h _ _ (I.hok.fresh (W3 _)) (I.hok.fresh (YaY _)) (Yaf (WaV _));have b:=Inv.made (C:=C) I;have c:Vals (V.ref (s.heap.objs.size+1)::(vs++dvs)) _:=.cons rfl (r.append y);have o:=by
  have e:=c.length;rw [F.len _ _ _ _ g] at e;exact e.symm
 refine wpAny_call (zkW I.kIn M.makes M.init (beq_iff_eq.mp M.fn) (codeAny_mono (F.run _ _ _ _ _ _ _ _ E (w.make C us [])
  (b.env0.make C us []) (p _ _ b.kIn o) c g) fun r m a=>?_))
 cases r with
 | error e=>exact n _ σ _ _ e m b a
 | ok A=>
  cases A with
  | ret u=>
   obtain⟨v,i,q,j,z,l⟩:=b.after a;subst z;exact⟨j,⟨V.ref _,i,q,rfl,l⟩⟩
  | next=>exact Xj a
  | brk=>exact Xj a
  | cont=>exact Xj a
theorem zhO(M:Mk X.K C f)(F:FnOk X.prog X.w X.K X.mg X.base CX k f fd ps sp)(u:Room (k+1) X.A)(m:Gl X x)(j:X.mg x=some (.ref C))(o:Binds X.K fd ps ds)(v:Vals dvs ds)(l:Passes CX X E)
 (n:PA X (e::es) t) (b:(x==("__debug__" : Str))=false:=by decide) (i:starEach (e::es) X.env=(false,eval e X.env)::starEach es X.env:=by rfl) (a:(backTo pos (starEach es X.env)).any (·.1)=false:=by rfl) :
 PE X (.Call (.Name x p) (e::es) [] pos) (zne C sp dvs E t):=by
 intro g s σ H Q I h;refine wpAny_Call_Name_kw (zbH I m j ?_ b);refine Wu I.ok.mod.kin M.kp (thn (n pos _ s σ H _ I h) fun A y ⟨z,w,c,r,q⟩=>⟨c.kIn,?_⟩) i a
 exact zmr M F u o v l c r q
end
section
variable{CX:CXT}{k:Nat}{f:Addr}{ks:List Str}{sp:Sp}{E:XK}{x m:Str}{apos kpos:Pos}{kws:List Keyword}{t tk:TA}{nm:Option Str}
variable{g:List Value->List Value->List Value}{gV:List V->List V->List V}
end
structure FnScope(N P:List Str)(sc:Scope):Prop where
 kind:sc.kind=.function
 co:sc.isCoroutine=false
 gen:sc.isGenerator=false
 nd:N.Nodup
 pre:N.take P.length=P
 par:∀ x∈P,sc.names.lookup x=some .local\/sc.names.lookup x=some .cell
 nofree:∀ y∈sc.names,y.2≠.free
theorem zfz{kindOf:Str->Option NameKind}{x:Str}:∀ {binds:List (Str×Value)} {m:Str->Option Value},(∀ v,(x,v)∉binds)->bindL kindOf binds m x=m x
 | [],_,_=>rfl
 | (n, v) :: r, m, h => by
  unfold bindL;rw [zfz fun w a=>h w (YaT _ a)]
  split
  . grind
  . rfl
theorem zfn{kindOf:Str->Option NameKind}{x:Str}:∀ {binds:List (Str×Value)} {m:Str->Option Value},(∀ v,(x,v)∉binds)->bindC kindOf binds m x=m x
 | [],_,_=>rfl
 | (n, v) :: r, m, h => by
  unfold bindC;rw [zfn fun w a=>h w (YaT _ a)]
  split
  . rfl
  grind
theorem zef{kindOf:Str->Option NameKind}{x:Str}{v:Value}:∀ {P:List Str} {vs:List Value} {i:Nat} {m:Str->Option Value},P.Nodup->P[i]?=some x->vs[i]?=some v->kindOf x=some .local->
 bindL kindOf (P.zip vs) m x=some v
 | [],_,_,_,_,h,_,_=>by simp at h
 | _::_,[],_,_,_,_,h,_=>by simp at h
 | p :: P, w :: vs, 0, m, nd, h1, h2, hk => by
  simp at h1 h2;subst h1;subst h2
  show bindL _ ((p,w)::P.zip vs) m p=_
  unfold bindL;rw [zfz fun v a=>(YaB.mp nd).1 (Wa4 a).1,if_pos hk]
  simp
 | p :: P, w :: vs, i + 1, m, nd, h1, h2, hk => by
  unfold bindL;exact zef (YaB.mp nd).2 (by simpa using h1) (by simpa using h2) hk
theorem zgG{kindOf:Str->Option NameKind}{x:Str}{v:Value}:∀ {P:List Str} {vs:List Value} {i:Nat} {m:Str->Option Value},P.Nodup->P[i]?=some x->vs[i]?=some v->kindOf x≠some .local->
 bindC kindOf (P.zip vs) m x=some v
 | [],_,_,_,_,h,_,_=>by simp at h
 | _::_,[],_,_,_,_,h,_=>by simp at h
 | p :: P, w :: vs, 0, m, nd, h1, h2, hk => by
  simp at h1 h2;subst h1;subst h2
  show bindC _ ((p,w)::P.zip vs) m p=_
  unfold bindC;rw [zfn fun v a=>(YaB.mp nd).1 (Wa4 a).1,if_neg hk]
  simp
 | p :: P, w :: vs, i + 1, m, nd, h1, h2, hk => by
  unfold bindC;exact zgG (YaB.mp nd).2 (by simpa using h1) (by simpa using h2) hk
noncomputable def start(N:List Str)(vs:List V):St:=vs.map some++Xb (N.length - vs.length) none
noncomputable def cxOf(CX:CXT)(P:Program)(w:World)(K:Ybf)(mg:Str->Option Value)(base:Heap)(N:List Str)(qual:Str)(scope:Scope)(f:Addr)(cd:Value)(A:Around)(outer:List Env)(s:Shared)(H:Hp)(E:XK):Cx where
 prog:=P
 w:=w
 K:=K
 mg:=mg
 base:=base
 A:=A.deeper (envOfC qual scope s.heap.objs.size f cd)
 N:=N
 s₀:=s
 H₀:=H
 env:=envOfC qual scope s.heap.objs.size f cd
 outer:=outer
 stack:=envOfC qual scope s.heap.objs.size f cd::outer
 ex:=[]
 calm:=true
 fn:=fun _=>true
 pn:=[]
 xe:=fun e s'=>wpAny (model P w) (A.deeper (envOfC qual scope s.heap.objs.size f cd)) (leaving (envOfC qual scope s.heap.objs.size f cd) e) (fun _ s''=>CX outer H s E e s'') (fun e' s''=>CX outer H s E e' s'') s'
theorem zfV{sc:Scope}(h:sc.names.lookup x=some .cell):∃ c,(cellsFrom n sc.names []).lookup x=some c:=by
 have q:=Wam _ n [] (.inl h);exact Wah.mp q
theorem zjm{E:XK}
 (S:FnScope N ps scope) (L:A.handled=none) (a:Env0 P w K mg base A outer s H) (M:vs.length=ps.length) (r:Vals vs us)
 (x:InCallC s s.heap.objs.size (bindL (envOfC qual scope s.heap.objs.size f cd).kindOf (ps.zip us) fun _=>none) (cellsFrom (s.heap.objs.size+1) scope.names []) (bindC (envOfC qual scope s.heap.objs.size f cd).kindOf (ps.zip us) fun _=>none) s1) :
 Inv (cxOf CX P w K mg base N qual scope f cd A outer s H E) [] (start N vs) H s1:=by
 have I:ps.length<=N.length:=by have:=congrArg Ya S.pre;grind
 obtain⟨B,Q,rfl,C⟩:=x.done;have g:∀ b:Addr,b∉(cxOf CX P w K mg base N qual scope f cd A outer s H E).ex:=fun b z=>absurd (show b∈([]:List Addr) from z) (by simp)
 refine⟨⟨a.mod,S.kind,rfl,rfl,YaY _,fun y z c B j=>?_,fun y n=>?_,fun y c _ h=>?_,fun _=>L,Wp a.frames,.inr ⟨rfl,rfl⟩,fun b z=>absurd z (g b),a.bs,a.bsz,fun b _ _=>g b,fun b z=>absurd z (g b),a.funs,a.frf⟩,
  rfl,a.bare,Un.kept C,⟨_,x.toInCall.ns,fun i y v B j O=>?_⟩,fun y c h=>⟨_,x.cell y c h⟩,a.hok.fresh (YaY _),fun y c h=>?_,fun p l=>absurd (show p∈([]) from l) (by simp),a.hok.kept C,?_⟩
 . exact name_of_addr x.apart (WaA B) (WaA j)
 . rcases n with n|n
   . exact zfV n
   . exact absurd rfl (S.nofree _ (WaA n))
 . exact Wbn (x.above y c (WaA h))
 . have o:i<vs.length:=by
    unfold start at j
    by_cases o:i<vs.length
    . exact o
    . rw [Yae (by simpa using o)] at j
      rw [Yad] at j
      simp_all
   have J:vs[i]?=some v:=by
    unfold start at j;rw [Yab (by simpa using o)] at j
    simp_all
   obtain⟨u,F,G⟩:=r.get J;have l:ps[i]?=some y:=by
    rw [<-S.pre,List.getElem?_take_of_lt #[0]];exact B
   have m:ps.Nodup:=by rw [<-S.pre];exact S.nd.sublist (List.take_sublist _ _)
   refine⟨u,G,?_⟩
   rcases S.par y (Yah l) with k|k
   . exact .inl ⟨k,zef m l F k⟩
   . obtain⟨c,e⟩:=zfV k
     refine .inr ⟨.inl k,c,e,?_⟩
     have q:=x.cell y c e;rw [zgG m l F (by show scope.names.lookup y≠_;rw [k];decide)] at q
     exact q
 . exact a.hok.fresh (Wbn (x.above y c (WaA h)))
 . unfold start
   show _=N.length
   grind
theorem zbB{kV:Value}
   {sp:Sp} (T:K.lookup f=some ⟨oc,od,.func (XO name qual params body scope dV kV doc pm an cdv ct),osl⟩) (p:XU K cdv qual=true) (S:FnScope N ps scope)
 (l:∀ vs H Q E,sp vs H Q E->vs.length=ps.length)
 (c:∀ (A:Around) (outer:List Env) (s:Shared) (H:Hp) (vs:List V) (Q:VK) (E:XK),Room k (A.deeper (envOfC qual scope s.heap.objs.size f cdv))->sp vs H Q E->
  ∃ t,PSs (cxOf CX P w K mg base N qual scope f cdv A outer s H E) body t/\t { nx:=fun _ H'=>Q .non H',rt:=Q } (start N vs) H) :
 FnOk P w K mg base CX (k+1) f (XO name qual params body scope dV kV doc pm an cdv ct) ps sp:=by
 refine⟨l,fun A outer s H M us vs Q E C i R r j=>?_⟩
 have Y:=l _ _ _ _ j;have L:=i.mod.kin.keeps fun b o e=>(i.bs b o e).1
 have z:=i.mod.nolimit.keeps fun b o e=>(i.bs b o e).1
 have g:∀ y∈ps.zip us,scope.names.lookup y.1=some _\/(scope.names.lookup y.1=some _/\((cellsFrom (s.heap.objs.size+1) _ []).lookup y.1).isSome=true):=fun⟨n,v⟩ hy=>by
  rcases S.par n (Wa4 hy).1 with q|q
  . exact .inl q
  . exact .inr ⟨q,Wam _ _ _ (.inl q)⟩
 refine codeAny_call_function C.depth (L _ _ T) rfl S.co S.gen rfl (PySem.W.codeRec_of L p) (R _ _ _ _ ?_)
 refine wpAny_newFunctionEnv_cells S.kind g fun Z O G x=>?_
 subst O;refine⟨z.keeps x.toInCall.keep,codeAny_func ?_⟩;obtain⟨t,X,U⟩:=c A _ s H vs Q E (C.deeper _) j;have I:Inv (cxOf CX P w K mg _ N qual _ f cdv A _ s H E) [] _ H G:=zjm S C.hd i Y r x;refine wpAny_mono (X [] G _ H _ I U) (fun W B h=>?_) fun e B h=>h
 have m:∀ {a:St} {H':Hp} {v:V} {u:Value},Inv (cxOf CX P w K mg base N qual scope f cdv A outer s H E) [] a H' B->RelV v u->Q v H'->CE _ P w H s Q u B:=
  fun {a H' v u} J F q=>⟨v,H',J.os,J.bare,J.base,J.hok,F,q⟩
 cases W with
 | ret u=>
  obtain⟨v,a,H',J,F,q⟩:=h;exact m J F q
 | next=>
  obtain⟨a,H',J,q⟩:=h;exact m (v:=V.non) J rfl q
 | brk=>
  obtain⟨_,_,_,q⟩:=h
  simp_all
 | cont=>
  obtain⟨_,_,_,q⟩:=h
  simp_all
section
variable{x:Str}{t:TA}{id T:String}{r:List V->Hp->VK->Prop}
def tCB(r:List V->Hp->VK->Prop)(t:TA):TE:=fun σ H Q=>t σ H fun vs H1=>r vs H1 Q
theorem ZW(w:zM X (.builtin id) r)(q:Gl X x)(m:X.mg x=none)(i:bootBuiltins x=some (.builtin id))(y:PA X (e::es) t)(z:x≠"__name__":=by decide)(b:(x==("__debug__" : Str))=false:=by decide)
 (j:starEach (e::es) X.env=(false,eval e X.env)::starEach es X.env:=by rfl) (a:(backTo pos (starEach es X.env)).any (·.1)=false:=by rfl):PE X (.Call (.Name x p) (e::es) [] pos) (tCB r t):=by
 intro c s σ H Q I h;refine wpAny_Call_Name_kw (Js I q m i ?_ z b);exact PyProof.Rows.callWith_builtin1 (thn (y pos _ s σ H _ I h) fun A n zz0 => by obtain ⟨o,l,g,u,v⟩ := zz0; exact w _ n σ l o A Q g u v) j a
theorem zhp(w:zM X (.type T) r)(q:Gl X x)(m:X.mg x=none)(i:bootBuiltins x=some (.type T))(y:PA X (e::es) t)(z:x≠"__name__":=by decide)(b:(x==("__debug__" : Str))=false:=by decide)
 (j:starEach (e::es) X.env=(false,eval e X.env)::starEach es X.env:=by rfl) (a:(backTo pos (starEach es X.env)).any (·.1)=false:=by rfl):PE X (.Call (.Name x p) (e::es) [] pos) (tCB r t):=by
 intro c s σ H Q I h;refine wpAny_Call_Name_kw (Js I q m i ?_ z b);exact Wad (thn (y pos _ s σ H _ I h) fun A n zz0 => by obtain ⟨o,l,g,u,v⟩ := zz0; exact w _ n σ l o A Q g u v) j a
end
end L2
namespace HT
open PySem PyProof.Rows
section
open PySem.SeqAt
open PySem.AutoSeq1 (wpAny_loadPart')
open PySem.MeetsSeq PySem.MeetsSeq2 PySem.MeetsSeq3
end
section
variable{prog:Program}{w:World}{A:Around}{E:Value->Shared->Prop}{s:Shared}
theorem cat_tup(y:IsTup s.heap t vs.toArray)(C:IsTup s.heap b ws.toArray)(v:vs≠[])
 (z:ws=[]->Q (.ref t) s) (F:ws≠[]->Q (.ref s.heap.objs.size) { s with heap:=s.heap.push { cls:=.type "tuple", data:=.seq (vs++ws).toArray } })
 (i:vs.length+ws.length<=sizeLine):wpAny (model prog w) A (binaryOp .Add (.ref t) (.ref b)) Q E s:=by
 obtain⟨⟨cls,r,data,q⟩,h,B,n,G⟩:=id y;obtain⟨⟨p,c,j,g⟩,a,m,u,o⟩:=id C;subst B G m o;have e:vs.toArray++ws.toArray=(vs++ws).toArray:=by simp
 by_cases l:ws=[]
 . exact concat_meets ⟨_,h,rfl⟩ ⟨_,a,rfl⟩ noFill_tuple_add seq_tuple_add Y9 YW (YR _ _)
    (tuple_addW1 t b _ _ n u r c q g (by simp_all) (by simp [l])) ⟨h,a,z l⟩
 . refine concat_meets ⟨_,h,rfl⟩ ⟨_,a,rfl⟩ noFill_tuple_add seq_tuple_add Y9 YW (YR _ _)
    (tuple_addW2 t b _ _ n u r c q g (by simpa using v) (by grind) (i)) ⟨h,a,?_⟩
   rw [e];exact F l
noncomputable def sIx(n d:Nat):Option Int->Nat
 | none=>d
 | some v=>if v<0 then(v+(n:Int)).toNat else min v.toNat n
theorem sIx_none(n d):sIx n d none=d:=rfl
theorem sIx_nat(n d k:Nat):sIx n d (some (k:Int))=min k n:=by
 show(if(k)<0 then((k)+(n:Int)).toNat else min _ n)=min k n
 simp_all
theorem zfI(v)(n d:Nat):(if v<0 then max (v+(n:Int)) 0 else min v (n:Int))=((sIx n d (some v):Nat):Int):=by
 show(if v<0 then max _ 0 else min v (n))=(((if v<0 then(v+(n)).toNat else min _ n)))
 omega
theorem zht(lo a)(n:Nat):YL lo a 1 (n:Int)=(((sIx n 0 lo:Nat):Int),((sIx n n a:Nat):Int)):=by
 refine Prod.ext ?_ ?_
 . cases lo with
   | none=>rfl
   | some v=>exact zfI v n 0
 . cases a with
   | none=>rfl
   | some v=>exact zfI v n n
theorem zhw(i j:Nat):XV (i:Int) (j:Int) 1=j - i:=by
 unfold XV
 omega
theorem zet(p:IsPart v o)(h:Q o s):wpAny (model prog w) A (Builtin.Slice.slicePartIndex v) Q E s:=by
 cases p with
 | none=>exact slicePart_none h
 | int i t=>exact slicePart_int h
theorem znv{lo:Option Int}{Q:Int×Int×Nat->Shared->Prop}(g:s.heap.IsSliceOf sl vl vu .none)(c:IsPart vl lo)(e:IsPart vu hi)
 (h:Q (((sIx n 0 lo:Nat):Int),1,sIx n n hi - sIx n 0 lo) s):wpAny (model prog w) A (Builtin.Slice.sliceApplied (.ref sl) (pure (n:Int))) Q E s:=by
 obtain⟨j,a,i,b⟩:=id g;refine wpAny_bind (wpAny_bind (wpAny_field a b rfl (wpAny_bind (wpAny_field a b rfl (wpAny_bind (wpAny_field a b rfl (wpAny_pure ?_)))))));refine wpAny_bind (slicePart_none ?_);refine wpAny_bind (zet c (wpAny_bind (zet e (wpAny_bind (wpAny_pure ?_)))));show wpAny _ _ (match YL lo hi 1 (n) with|(lo,hi)=>pure (lo,(1:Int),XV lo hi 1)) _ _ s
 rw [zht lo hi n];show wpAny _ _ (pure _) _ _ s;rw [zhw];exact wpAny_pure h
theorem zmW(xs:Array Value)(i k:Nat):((Xe k).filterMap fun(m:Nat)=>xs[((i:Int)+(m:Int)*1).toNat]?).toArray=((xs.toList.drop i).take k).toArray:=by
 have e:(fun(m:Nat)=>xs[((i)+(m:Int)*1).toNat]?)=fun m=>xs[i+m]?:=by
  funext m
  have:((i)+(m:Int)*1).toNat=i+m:=#[0]
  rw [this]
 rw [e];have:=pick_run xs i k;rw [List.filterMap_map] at this;have a:((fun x=>xs[x]?)∘fun x=>i+x)=fun m=>xs[i+m]?:=rfl
 grind
theorem getItem_tuple_cut{lo:Option Int}(b:IsTup s.heap t items)(j:s.heap.IsSliceOf sl vl vu .none)(n:IsPart vl lo)(u:IsPart vu hi)
 (o:¬(sIx items.size 0 lo=0/\sIx items.size items.size hi=items.size))
 (h:Q (.ref s.heap.objs.size) { s with heap:=s.heap.push { cls:=.type "tuple", data:=.seq ((items.toList.drop (sIx items.size 0 lo)).take (sIx items.size items.size hi - sIx items.size 0 lo)).toArray } })
 (l:items.size<=sizeLine):wpAny (model prog w) A (getItem (.ref t) (.ref sl)) Q E s:=by
 have a:=by
  show((items.toList.drop (sIx items.size 0 lo)).take (sIx items.size items.size hi - sIx items.size 0 lo)).toArray.size<=sizeLine
  rw [YaZ,WaW,WR,Yt]
  lia
 obtain⟨p,e,c,r⟩:=id j;have g:s.TypeIs (.ref sl) "slice":=⟨p,e,c⟩;unfold getItem
 try with_reducible refine wpAny_holding ?_
 first|refine wpAny_bind (wpAny_pure ?_)|skip
 refine wpAny_bind (wpAny_sequenceKey b.typeIs #[1] ?_)
 refine wpAny_bind (wpAny_callSpecial?_slot (name:=Yi "__getitem__") b.typeIs Yb
  (wpAny_call_entry Yb b.typeIs entry_tuple_getitem ?_ (args_tuple_getitem _ _)))
 show wpAny _ _ (Builtin.Tuple.tupleItemsOf (.ref t) >>= _) _ _ s
 refine wpAny_bind (tupleItemsOf_ b ?_)
 refine wpAny_bind (wpAny_typeOf g ?_)
 rw [if_pos #[1]]
 refine wpAny_bind (znv j n u ?_)
 have i:¬((((sIx items.size 0 lo:Nat):Int)==0&&(1:Int)==1&&(sIx items.size items.size hi - sIx items.size 0 lo)==items.size)=true):=by
  intro q;rw [Yak,Yak] at q;exact o ⟨#[94],#[94]⟩
 show wpAny _ _ (if(((sIx items.size 0 lo:Nat):Int)==0&&(1:Int)==1&&(sIx items.size items.size hi - sIx items.size 0 lo)==items.size)=true then _ else _) _ _ s
 rw [if_neg i,zmW]
 first
  | exact wpAny_bind (m:=Builtin.Tuple.tupleExact _) (wpAny_newObj_type (wpAny_pure ⟨_,rfl,wpAny_pure h⟩) a)
  | exact wpAny_bind (m:=Builtin.Tuple.tupleExact _) _
  | exact wpAny_bind _
  | exact wpAny_bind _
end
end HT
namespace L2
open PySem PySem.Spec PyProof.Rows
abbrev TO:=St->Hp->(Option Int->Hp->Prop)->Prop
def PO(X:Cx)(e:Option Expr)(t:TO):Prop:=
 ∀ (pins:List (Addr×Obj)) (s:Shared) (σ : St) (H:Hp) (Q:Option Int->Hp->Prop),Inv X pins σ H s->t σ H Q->
  wpAny (model X.prog X.w) X.A (evalPart e X.env) (fun u s'=>∃ o H',Inv X pins σ H' s'/\IsPart u o/\Q o H') X.xe s
def tNoPart:TO:=fun _ H Q=>Q none H
def zhT(t:TE):TO:=fun σ H Q=>t σ H fun x H1=>∃ i,x=.int i/\Q (some i) H1
theorem zaI:∀ {us:List Value},Vals (ns.map V.int) us->IntsAre us ns:=by
 induction ns with
 | nil=>intro us r;cases r;exact .nil
 | cons n ns a=>
  intro us r;cases r with
  | cons b c=>
   obtain⟨t,e⟩:=b;subst e;exact .cons n t (a c)
section
variable{X:Cx}{e:Expr}{te:TE}{lo hi:Option Expr}{tl th:TO}{pos p2:Pos}
theorem zlK:PO X none tNoPart:=by
 intro a s σ H Q I h;rw [evalPart_none];exact wpAny_pure ⟨none,H,I,.none,h⟩
theorem zkn(h:PE X e te):PO X (some e) (zhT te):=by
 intro a s σ H Q I l;refine thn (h _ s σ H _ I l) fun u m ξ=>?_
 refine Hd fun ν ζ=>?_;obtain⟨x,c,b,g,j⟩:=ξ;apply ζ;obtain⟨i,rfl,q⟩:=j;obtain⟨t,rfl⟩:=g;exact⟨_,c,b,.int i t,q⟩
def SlR(X:Cx)(r:V->Option Int->Option Int->Hp->VK->Prop):Prop:=
 ∀ (pins:List (Addr×Obj)) (s:Shared) (σ : St) (H:Hp) (x:V) (v vl vu:Value) (lo hi:Option Int) (sl:Addr) (Q:VK),Inv X pins σ H s->RelV x v->s.heap.IsSliceOf sl vl vu .none->IsPart vl lo->IsPart vu hi->r x lo hi H Q->
  ∃ T id,typeLookup (.type T) "__getitem__" = pure (some (.builtin id))/\s.TypeIs v T/\wpAny (model X.prog X.w) X.A (getItem v (.ref sl)) (EP X pins σ Q) X.xe s
def tSl(r:V->Option Int->Option Int->Hp->VK->Prop)(te:TE)(tl th:TO):TE:=fun σ H Q=>te σ H fun x H1=>tl σ H1 fun l H2=>th σ H2 fun u H3=>r x l u H3 Q
theorem zeO(R:SlR X r)(w:PE X e te)(O:PO X lo tl)(z:PO X hi th):PE X (.Subscript e (.Slice lo hi none p2) pos) (tSl r te tl th):=by
 intro j s σ H Q I h;refine Subscript_ (thn (w _ s σ H _ I h) fun v A ξ=>?_)
 refine Hd fun ν ζ=>?_;obtain⟨x,y,m,E,N⟩:=ξ;apply ζ;refine wpAny_Slice (thn (O _ A σ y _ m N) fun g p ⟨l,K,M,n,B⟩=>thn (z _ p σ K _ M B) fun i a ξ=>?_)
 refine Hd fun ν ζ=>?_;obtain⟨u,c,P,L,o⟩:=ξ;apply ζ;refine wpAny_pure ?_
 have F:Inv X _ σ c { a with heap:=a.heap.push { cls:=.type "slice", data:=.fields #[g,i,.none] } }:=P.kept fun b S q=>YaW _ q
 obtain⟨T,id,J,G,C⟩:=R _ _ σ c x v g i l u _ Q F E (Heap.IsSliceOf.new ..) n L o;exact tail_any G J C (by with_unfolding_all rfl)
noncomputable def cutV(xs:List V)(lo hi:Option Int):List V:=(xs.drop (HT.sIx xs.length 0 lo)).take (HT.sIx xs.length xs.length hi - HT.sIx xs.length 0 lo)
theorem zhm(xs)(lo a):(cutV xs lo a).length<=xs.length:=by
 unfold cutV;rw [WaW,WR]
 omega
def rSlT(K:Ybf):V->Option Int->Option Int->Hp->VK->Prop:=fun x lo hi H Q=>∃ a xs,x=.ref a/\SqT K H a xs/\
 ¬(HT.sIx xs.length 0 lo=0/\HT.sIx xs.length xs.length hi=xs.length)/\∀ p,H p=none->Q (.ref p) (upd H p (.tup (cutV xs lo hi)))
theorem ziU:SlR X (rSlT X.K):=by
 intro j s σ H x v A C p m B Q I u z l o h;obtain⟨a,i,rfl,n,w,q⟩:=h;cases u;obtain⟨e,r,g,y⟩:=I.tuple n;have c:e.toArray.size=i.length:=r.length.symm;refine⟨_,_,rfl,g.typeIs,?_⟩;refine HT.getItem_tuple_cut g z l o (by rw [c];exact w) ?_ (by simp_all)
 rw [c];refine⟨.ref _,_,I.laid (fun b E q=>YaW _ q) (YaY _) ?_,rfl,q _ (I.hok.fresh (YaY _))⟩
 exact⟨Ya5 (zhm i p m) y,_,(r.drop _).take _,IsTup.new _ _⟩
def zkD(K:Ybf):R2:=fun x y H Q=>∃ a b xs ys,x=.ref a/\y=.ref b/\SqT K H a xs/\SqT K H b ys/\xs≠[]/\xs.length+ys.length<=sizeLine/\
 (ys=[]->Q (.ref a) H)/\(ys≠[]->∀ p,H p=none->Q (.ref p) (upd H p (.tup (xs++ys))))
theorem Vals.nil_iff(r:Vals xs us):us=[]↔xs=[]:=by
 cases r with
 | nil=>simp
 | cons _ _=>simp
theorem zmn:OpR X (binaryOp .Add) (zkD X.K):=by
 intro i s σ H x y v u Q I r o h;obtain⟨a,b,J,F,rfl,rfl,m,n,j,C,A,l⟩:=h;cases r;cases o;obtain⟨p,e,B,_⟩:=I.tuple m;obtain⟨g,c,E,_⟩:=I.tuple n;refine HT.cat_tup B E (fun z=>j (e.nil_iff.mp z)) (fun z=>⟨.ref a,H,I,rfl,A (c.nil_iff.mp z)⟩) (fun z=>?_) (by rw [<-e.length,<-c.length];exact C)
 refine⟨.ref _,_,I.laid (fun b G q=>YaW _ q) (YaY _) ?_,rfl,l (fun w=>z (c.nil_iff.mpr w)) _ (I.hok.fresh (YaY _))⟩
 exact⟨by simp_all,_,e.append c,IsTup.new _ _⟩
end
noncomputable def ixN(n:Nat)(i:Int):Option Nat:=if 0<=i then(if i<n then some i.toNat else none) else if -(n:Int)<=i then some (i+n).toNat else none
noncomputable def atI{α : Type}(xs:List α)(i:Int):Option α:=(ixN xs.length i).bind fun j=>xs[j]?
theorem zfq(h:ixN n i=some j):seqIndex? i n=some j/\j<n/\-(n:Int)<=i/\i<n:=by
 unfold ixN at h
 by_cases b:0<=i
 . rw [if_pos b] at h
   by_cases a:i<n
   . rw [if_pos a] at h
     have e:=Wa3 h;exact⟨by rw [seqIndex_of b a,e],#[0],#[0],a⟩
   simp_all
 . rw [if_neg b] at h
   by_cases a:-(n)<=i
   . rw [if_pos a] at h
     have e:=Wa3 h;exact⟨by rw [seqIndex_neg #[0] a,e],#[0],a,#[0]⟩
   simp_all
theorem zcc{xs:List α}{v:α}(h:atI xs i=some v):∃ j,seqIndex? i xs.length=some j/\xs[j]?=some v/\j<xs.length/\-(xs.length:Int)<=i/\i<xs.length:=by
 unfold atI at h;cases e:ixN xs.length i with
 | none=>simp_all
 | some j=>
  rw [e] at h;obtain⟨a,b,c,g⟩:=zfq e;exact⟨j,a,h,b,c,g⟩
theorem jb{xs:List α}{j:Nat}{v:α}(h:xs[j]?=some v):atI xs (j:Int)=some v:=by
 have a:=(Ya8.mp h).1;have e:ixN xs.length (j)=some j:=by
  unfold ixN
  simp_all
 unfold atI;rw [e];exact h
def ZM(b:Expr):Prop:=∀ o i,subscripted b false o i=operate [o,i] (getItem o i)
def IxR(X:Cx)(r:R2):Prop:=
 ∀ (value slice:Expr) (pins:List (Addr×Obj)) (s:Shared) (σ : St) (H:Hp) (x y:V) (v u:Value) (Q:VK),Inv X pins σ H s->RelV x v->RelV y u->r x y H Q->
  subscripted slice false v u=operate [v,u] (getItem v u)->wpAny (model X.prog X.w) X.A (subscriptTail value slice v u) (EP X pins σ Q) X.xe s
def MtR(X:Cx)(id:String)(r:V->List V->Hp->VK->Prop):Prop:=
 ∀ (pins:List (Addr×Obj)) (s:Shared) (σ : St) (H:Hp) (x:V) (xs:List V) (v:Value) (us:List Value) (Q:VK),Inv X pins σ H s->RelV x v->Vals xs us->r x xs H Q->
  wpAny (model X.prog X.w) X.A (call (.builtin id) (v::us)) (EP X pins σ Q) X.xe s
section
variable{X:Cx}{a b:Expr}{ta tb:TE}{pos:Pos}
theorem IxR.or(h:IxR X r)(h':IxR X r'):IxR X (fun x y H Q=>r x y H Q\/r' x y H Q):=by
 intro a b c s σ H x y v u Q I i e q g
 rcases q with q|q
 . exact h a b _ s σ H x y v u Q I i e q g
 . exact h' a b _ s σ H x y v u Q I i e q g
theorem jI(o:IxR X r)(l:PE X a ta)(j:PE X b tb)(p:ZM b):PE X (.Subscript a b pos) (tOp r ta tb):=by
 intro c s σ H Q I h;exact Subscript_ (binT l j I h fun v u e x y g m i n q=>o a b _ e σ g x y v u Q m i n q (p _ _))
def rIxL(K:Ybf):R2:=fun x y H Q=>∃ p xs i v,x=.ref p/\y=.int i/\SqL K H p xs/\atI xs i=some v/\Q v H
def rIxT(K:Ybf):R2:=fun x y H Q=>∃ p xs i v,x=.ref p/\y=.int i/\SqT K H p xs/\atI xs i=some v/\Q v H
def rIxS:R2:=fun x y H Q=>∃ z i c,x=.str z/\y=.int i/\z.length<=sizeLine/\atI z.cps.toList i=some c/\Q (.str ⟨#[c]⟩) H
theorem Jg:IxR X (rIxL X.K):=by
 intro c l B s σ H x y v u Q I M F h o;obtain⟨p,P,i,z,rfl,rfl,L,E,q⟩:=h;cases M;obtain⟨t,rfl⟩:=F;obtain⟨e,r,b,S⟩:=I.list L;obtain⟨j,g,K,O,G,J⟩:=zcc E;obtain⟨w,C,m⟩:=r.get K;have R:=r.length;have N:=JD;have a:EP X _ σ Q w s:=⟨z,H,I,m,q⟩
 by_cases A:0<=i
 . have n:=by
    rw [seqIndex_of A J] at g;exact Wa3 g
   exact item_listR b.isList A #[0] (by rw [n];simpa using C) a o
 . have n:(i+(e.toArray.size)).toNat=j:=by
    rw [seqIndex_neg #[0] G] at g
    simp_all
   exact subscriptTail_builtinR b.isList.typeIs slot_list_getitem.lookup
    (wpAny_getItem_list_neg b.isList #[0] (by simp_all) #[0] (by rw [n];simpa using C) ⟨rfl,a⟩) o
theorem zb1:IxR X (rIxT X.K):=by
 intro a b l s σ H x y v u Q I E n h A;refine Hd fun k Y=>?_;obtain⟨p,M,i,z,rfl,rfl,B,m,q⟩:=h;apply Y;cases E;obtain⟨t,rfl⟩:=n;refine Hd fun k Y=>?_;obtain⟨C,r,g,P⟩:=I.tuple B;obtain⟨j,N,o,J,K,L⟩:=zcc m;apply Y;obtain⟨w,F,c⟩:=r.get o;have O:=r.length;have G:=JD;have e:EP X _ σ Q w s:=⟨z,H,I,c,q⟩;exact subscriptTail_builtinR g.typeIs slot_tuple_getitem.lookup
  (getItem_tuple (j:=j) g #[94] #[94] (by simp_all) (by simpa using F) ⟨rfl,e⟩) A
theorem zlI:IxR X rIxS:=by
 intro a b g s σ H x y v u Q I w m h r;obtain⟨z,i,c,rfl,rfl,E,l,q⟩:=h;obtain⟨t,rfl⟩:=w;obtain⟨F,rfl⟩:=m;obtain⟨j,e,p,C,n,o⟩:=zcc l;have A:z.cps.toList.length=z.length:=by simp [Str.length]
 rw [A] at e n o;have B:=JD;exact tail_any (typeIs_str s z t) slot_str_getitem.lookup (getItem_str (by
  grind) (by rw [e];simpa using p) ⟨.str _,H,I.tok _,⟨_,rfl⟩,q⟩) r
def rIx(K:Ybf):R2:=fun x y H Q=>rIxL K x y H Q\/rIxT K x y H Q\/rIxS x y H Q
theorem ziZ:IxR X (rIx X.K):=Jg.or (zb1.or zlI)
theorem zkA(its:List Value)(n j)(u):Yd (·.setIfInBounds j u) { cls:=.type "list", data:=.seq its.toArray n } = { cls:=.type "list", data:=.seq (its.set j u).toArray n }:=by
 simp [Yd]
theorem Inv.lst{σ : St}(I:Inv X pins σ H s)(h:H p=some (.lst xs)) :
 ∃ (its:List Value) (n:Nat),Vals xs its/\s.heap.get? p=some { cls:=.type "list", data:=.seq its.toArray n }/\xs.length<=sizeLine:=by
 obtain⟨z,its,n,r,e⟩:=I.hok p _ h;exact⟨its,n,r,e,z⟩
theorem Inv.lstUpd{σ : St}{its:List Value}(I:Inv X pins σ H s)(h:H p=some (.lst xs))
 (g:s.heap.get? p=some { cls:=.type "list", data:=.seq its.toArray n }) (a:f { cls:=.type "list", data:=.seq its.toArray n } = { cls:=.type "list", data:=.seq its'.toArray n' }) (r:Vals ys its') (c:ys.length<=sizeLine) (t) :
 Inv X pins σ (upd H p (.lst ys)) { s with heap:=s.heap.update p f,toks:=t }:=by
 have e:(s.heap.update p f).get? p=some { cls:=.type "list", data:=.seq its'.toArray n' }:=by
  rw [Wat f g (by rw [a]<;>rfl),a]
 refine I.write (by rw [h];trivial) (.inl rfl) (fun b u i q=>(Wan _ _ (WbA i)).trans q) ⟨_,e⟩ ?_
 exact⟨c,its',n',r,e⟩
def rSetL:V->V->V->Hp->(Hp->Prop)->Prop:=fun o i v H Q=>∃ p xs k j,o=.ref p/\i=.int k/\H p=some (.lst xs)/\ixN xs.length k=some j/\Q (upd H p (.lst (xs.set j v)))
theorem za2:PSet X rSetL:=by
 intro m s σ H o i v J K u Q I B A C h;obtain⟨p,L,k,j,rfl,rfl,g,E,q⟩:=h;cases B;obtain⟨t,rfl⟩:=A;obtain⟨a,n,r,c,N⟩:=I.lst g;obtain⟨e,G,y,z⟩:=zfq E;have M:=r.length;have F:=JD;have w:=
  I.lstUpd g c (zkA a n j u) (r.set C j) (by simp_all) s.toks
 by_cases l:0<=k
 . have b:=by
    rw [seqIndex_of l z] at e;exact Wa3 e
   exact PySem.W.ki_setAt c l #[0] (by simp_all) (by rw [b];exact⟨_,w,q⟩)
 . have b:(k+(a.toArray.size)).toNat=j:=by
    rw [seqIndex_neg #[0] y] at e
    grind
   exact PySem.W.ki_setBack c #[0] (by simp_all) #[0] (by rw [b];exact⟨_,w,q⟩)
theorem zl0(lo a)(n):(sliceBounds lo a none n).1=((HT.sIx n 0 lo:Nat):Int)/\(sliceBounds lo a none n).2.1=((HT.sIx n n a:Nat):Int)/\(sliceBounds lo a none n).2.2=1:=by
 refine⟨?_,?_,rfl⟩
 . cases lo with
   | none=>simp [sliceBounds,HT.sIx]
   | some i=>
    simp [sliceBounds,HT.sIx]
    by_cases h:i<0
    . simp only [h,if_true]<;>omega
    . simp [h]<;>omega
 . cases a with
   | none=>simp [sliceBounds,HT.sIx]
   | some i=>
    simp [sliceBounds,HT.sIx]
    by_cases h:i<0
    . simp only [h,if_true]<;>omega
    . simp only [h,if_false]<;>omega
theorem zhP(its:List Value)(lo a):slicePick its.toArray lo a none=((its.drop (HT.sIx its.length 0 lo)).take (HT.sIx its.length its.length a - HT.sIx its.length 0 lo)).toArray:=by
 obtain⟨b,e,c⟩:=zl0 lo a _;unfold slicePick;rw [b,e,c];simp only [sliceRange_one,pick_run]<;>rfl
def rSlL(K:Ybf):V->Option Int->Option Int->Hp->VK->Prop:=fun x lo hi H Q=>∃ a xs,x=.ref a/\SqL K H a xs/\∀ p,H p=none->Q (.ref p) (upd H p (.lst (cutV xs lo hi)))
theorem zlS:SlR X (rSlL X.K):=by
 intro g s σ H x v z B p l A Q I u y i n h;obtain⟨a,o,rfl,m,q⟩:=h;cases u;obtain⟨j,r,e,w⟩:=I.list m;have c:=r.length;refine⟨_,_,rfl,e.isList.typeIs,?_⟩;refine wpAny_getItem_list_slice e.isList y i n .none (by simp) ?_ (by grind)
 rw [zhP,<-c];refine⟨.ref _,_,I.laid (fun b C q=>YaW _ q) (YaY _) ?_,rfl,q _ (I.hok.fresh (YaY _))⟩
 exact⟨Ya5 (zhm o p l) w,_,0,(r.drop _).take _,Yan _ rfl⟩
theorem za9:zM X (.builtin "len") (fun xs H Q=>∃ p ys,xs=[.ref p]/\(SqL X.K H p ys\/SqT X.K H p ys)/\Q (.int ys.length) H):=by
 intro i s σ H xs m Q I r h;obtain⟨p,ys,rfl,b,q⟩:=h;obtain⟨u,rfl,j⟩:=Jl r;cases j;have n:=JD
 rcases b with b|b
 . obtain⟨e,g,c,l⟩:=I.list b
   have a:=g.length;exact Calls.call_len_list c.isList (by simp<;>lia) ⟨.int _,H,I.tok _,⟨_,by rw [YaZ,a]⟩,q⟩
 . obtain⟨e,g,c,l⟩:=I.tuple b
   have a:=g.length;exact len_tuple c (by simp<;>lia) ⟨.int _,H,I.tok _,⟨_,by rw [YaZ,a]⟩,q⟩
theorem zjS:zM X (.builtin "len") (fun xs H Q=>∃ z,xs=[.str z]/\z.length<=sizeLine/\Q (.int z.length) H):=by
 intro a s σ H xs e Q I r h;obtain⟨z,rfl,c,q⟩:=h;obtain⟨u,rfl,t,rfl⟩:=Jl r;have b:=JD;exact len_str #[0] ⟨.int _,H,I.tok _,⟨_,rfl⟩,q⟩
theorem zM.or(h:zM X f r)(h':zM X f r'):zM X f (fun xs H Q=>r xs H Q\/r' xs H Q):=by
 intro c s σ H xs b Q I a q
 rcases q with q|q
 . exact h _ s σ H xs b Q I a q
 . exact h' _ s σ H xs b Q I a q
theorem zm6:zM X (.type "list") (fun xs H Q=>∃ p ys,xs=[.ref p]/\(SqL X.K H p ys\/SqT X.K H p ys)/\∀ l,H l=none->Q (.ref l) (upd H l (.lst ys))):=by
 intro F s σ H xs J Q I r h;obtain⟨p,ys,rfl,w,q⟩:=h;obtain⟨u,rfl,G⟩:=Jl r;cases G;have v:∀ (a:List Value),Vals ys a->ys.length<=sizeLine->∀ (c:Heap) (i:Nat),(∀ b E,s.heap.get? b=some E->c.get? b=some E)->
  c.get? _=some _->EP X _ σ Q _ _:=fun a g m c i j e=>
  ⟨.ref _,_,I.laid (t':=s.toks) j (YaY _) (show zQ _ X.w _ c _ (.lst ys) from⟨m,a,i,g,e⟩),rfl,q _ (I.hok.fresh (YaY _))⟩
 rcases w with w|w
 . obtain⟨a,g,z,m⟩:=I.list w
   have y:=g.length;obtain⟨o,A,B,n,C⟩:=z.isList;exact call_list_seq p (.inl rfl) A B C (fun c i j e=>v a g m c i j e) (by grind)
 . obtain⟨a,g,z,m⟩:=I.tuple w
   have y:=g.length;obtain⟨o,A,B,n,C⟩:=z;exact call_list_seq p (.inr rfl) A B C (fun c i j e=>v a g m c i j e) (by simp_all)
def tyV(K:Ybf)(T:String)(x:V)(H:Hp):Prop:=match x with
 | .str _=>T = "str"
 | .int _=>T = "int"
 | .ref p => (T = "list" /\ ∃ xs, SqL K H p xs) \/ (T = "tuple" /\ ∃ o, K.lookup p = some o /\ o.cls = .type "tuple" /\ o.dict = none) \/
  (T = "dict"/\((∃ kvs,H p=some (.dK kvs))\/∃ kvs,H p=some (.dT kvs)))\/(T = "set"/\∃ S n,H p=some (.set S n))
 | _=>False
theorem ziv{σ : St}(I:Inv X pins σ H s)(r:RelV x v)(h:tyV X.K T x H) :
 s.TypeIs v T/\∀ a,v=.ref a->∃ ob,s.heap.get? a=some ob/\ob.dict=none:=by
 cases x with
 | str z=>
  obtain⟨t,rfl⟩:=r;cases(h);exact⟨rfl,fun _ e=>nomatch e⟩
 | int i=>
  obtain⟨t,rfl⟩:=r;cases(h);exact⟨rfl,fun _ e=>nomatch e⟩
 | ref p=>
  cases r
  rcases h with ⟨rfl,A,y⟩|⟨rfl,o,b,w,m⟩|⟨rfl,b⟩|⟨rfl,S,n,b⟩
  . obtain⟨u,_,q,_⟩:=I.list y
    refine⟨q.isList.typeIs,fun a e=>?_⟩
    cases e;obtain⟨o,n,e,c,m,_⟩:=q
    exact⟨o,e,m⟩
  . refine⟨⟨o,I.kIn p o b,w⟩,fun a e=>?_⟩
    cases e;exact⟨o,I.kIn _ o b,m⟩
  . have z:∃ o,s.heap.get? p=some o/\o.ExactDict:=by
     rcases b with ⟨l,b⟩|⟨l,b⟩
     . obtain⟨_,_,_,_,o,_,_,e,g,_⟩:=I.hok p _ b
       exact⟨o,e,g⟩
     . obtain⟨_,_,_,_,o,_,_,e,g,_⟩:=I.hok p _ b
       exact⟨o,e,g⟩
    obtain⟨o,e,g⟩:=z;refine⟨⟨o,e,g.1⟩,fun a j=>?_⟩
    cases j;exact⟨o,e,g.2.1⟩
  . obtain⟨o,_,_,_,e,g,_⟩:=I.hok p _ b
    refine⟨⟨o,e,g.1⟩,fun a j=>?_⟩
    cases j;exact⟨o,e,g.2.1⟩
 | _=>exact Xj h
def tBM(K:Ybf)(T:String)(r:V->List V->Hp->VK->Prop)(to:TE)(t:TA):TE:=fun σ H Q=>to σ H fun x H1=>tyV K T x H1/\t σ H1 fun xs H2=>r x xs H2 Q
variable{o e:Expr}{es:List Expr}{to:TE}{t:TA}{name:Str}{apos cpos:Pos}{T id:String}{r:V->List V->Hp->VK->Prop}
theorem zdG(J:PlainAttrs T)(g:Slot T name id)(j:typeOf (.builtin id)=pure (.type "method_descriptor"))(y:MtR X id r)(w:PE X o to)(C:PA X (e::es) t)
 (a:attributeBase o name X.env (eval o X.env)=eval o X.env:=by rfl)
 (c:((backTo cpos (starEach (e::es) X.env)).all (fun x=>!x.1)&&(backToKw cpos (keywordEach [] X.env)).all (fun x=>x.1.isSome)
  && decide ((e::es).length+([]:List Keyword).length+(if([]:List Keyword).isEmpty then 0 else 1)<30))=true:=by rfl)
 (b:(apos.endLine==cpos.line)=true:=by rfl) (F:starEach (e::es) X.env=(false,eval e X.env)::starEach es X.env:=by rfl) (i:(backTo cpos (starEach es X.env)).any (·.1)=false:=by rfl) :
 PE X (.Call (.Attribute o name apos) (e::es) [] cpos) (tBM X.K T r to t):=by
 intro p s σ H Q I h;refine wpAny_Call_method_late a c b rfl (thn (w _ s σ H _ I h) fun v z ξ=>?_)
 refine Hd fun ν ζ=>?_;obtain⟨x,u,l,m,K,O⟩:=ξ;apply ζ;obtain⟨M,E⟩:=ziv l m K;refine⟨T,id,J,g,j,M,E,?_⟩;have n:=C cpos _ z σ u _ l O;rw [F] at n ⊢;refine X7 (by show(false||(backTo cpos _).any _)=false;lia) (Wax ?_)
 exact thn n fun P q zz0 => by obtain ⟨A,L,N,G,B⟩ := zz0; exact y _ q σ L x A v P Q N m G B
end
def MtM(X:Cx)(id:String)(r:V->List V->Hp->VK->Prop):Prop:=
 ∀ (pins:List (Addr×Obj)) (s:Shared) (σ : St) (H:Hp) (x:V) (xs:List V) (v:Value) (us:List Value) (Q:VK),Inv X pins σ H s->RelV x v->Vals xs us->r x xs H Q->
  wpAny (model X.prog X.w) X.A (call (.builtin id) (v::us)) (EP X pins σ Q) X.xe s
theorem Vals.one:∀ {x:V} {us:List Value},Vals [x] us->∃ u,us=[u]/\RelV x u:=by
 intro x us h;cases h with|cons r t=>cases t;exact⟨_,rfl,r⟩
theorem Vals.rep{xs:List V}{us:List Value}(h:Vals xs us):∀ k:Nat,Vals (Xb k xs).flatten (Xb k us).flatten
 | 0=>.nil
 | k+1=>Vals.append h (Vals.rep h k)
theorem zcs(its:List Value):∀ (k:Nat) (acc:List Value),
 Ue (fun x1 x2=>x1++x2) acc.toArray (Xb k its.toArray)=(acc++(Xb k its).flatten).toArray
 | 0,acc=>by simp
 | k + 1, acc => by
  have e:acc.toArray++its.toArray=(acc++its).toArray:=by simp
  have a:(acc++its)++(Xb k its).flatten=acc++(Xb (k+1) its).flatten:=by
   grind
  rw [<-a,<-zcs its k _,<-e,Ws,Xo]
section
variable{X:Cx}{pins:List (Addr×Obj)}{σ: St}{H:Hp}{s:Shared}{l b:Addr}{xs ys zs:List V}
theorem Inv.lset{its:List Value}(I:Inv X pins σ H s)(g:H l=some (.lst xs))
 (e:s.heap.get? l=some { cls:=.type "list", data:=.seq its.toArray n }) (a:f its.toArray=its'.toArray) (b:Vals ys its') (c:ys.length<=sizeLine) :
 Inv X pins σ (upd H l (.lst ys)) { s with heap:=s.heap.update l (Yd f),toks:=t' }:=by
 have q:=PySem.IsL.update e f;rw [a] at q;refine I.write (by rw [g];exact trivial) (.inl rfl) (fun j u i h=>(Wan _ _ (WbA i)).trans h) ⟨_,q⟩ ?_
 exact⟨c,its',_,b,q⟩
theorem Inv.lnew(I:Inv X pins σ H s)(a:Vals ys its)(b:ys.length<=sizeLine) :
 Inv X pins σ (upd H s.heap.objs.size (.lst ys)) { s with heap:=s.heap.push { cls:=.type "list", data:=.seq its.toArray },toks:=t' }:=
 I.laid (fun _ _ q=>YaW _ q) (YaY _) ⟨b,its,0,a,Yan _ rfl⟩
theorem Inv.fresh(I:Inv X pins σ H s):H s.heap.objs.size=none:=I.hok.fresh (YaY _)
theorem Inv.lstM(I:Inv X pins σ H s)(a:H l=some (.lst xs)):xs.length<=sizeLine/\∃ (its:List Value) (n:Nat),Vals xs its/\xs.length=its.length/\s.heap.get? l=some { cls:=.type "list", data:=.seq its.toArray n }:=by
 obtain⟨z,its,n,r,e⟩:=I.hok l _ a;exact⟨z,its,n,r,r.length,e⟩
theorem zh8(h:n<=sizeLine):Builtin.List.listTooLong n=false:=decide_eq_false #[0]
end
section
variable{X:Cx}
def rAppend:V->List V->Hp->VK->Prop:=fun x vs H Q=>∃ l xs y,x=.ref l/\vs=[y]/\H l=some (.lst xs)/\xs.length<sizeLine/\Q .non (upd H l (.lst (xs++[y])))
theorem zgj:MtM X "list.append" rAppend:=by
 intro b s σ H x m v A Q I j g h;obtain⟨l,o,y,rfl,rfl,a,w,q⟩:=h;cases j;obtain⟨u,rfl,i⟩:=g.one;obtain⟨z,c,n,r,p,e⟩:=I.lstM a;refine call_meets F.slot_list_append ⟨_,e,rfl⟩ F.entry_list_append (F.args_list_append_2 _ _) (PySem.list_append l _ n u (by grind)) ⟨e,?_⟩
 refine⟨.non,_,I.lset a e (by simp) (r.append (.cons i .nil)) ?_,rfl,q⟩
 grind
def rExtend:V->List V->Hp->VK->Prop:=fun x vs H Q=>∃ l b xs zs,x=.ref l/\vs=[.ref b]/\H l=some (.lst xs)/\H b=some (.lst zs)/\xs.length+zs.length<=sizeLine/\Q .non (upd H l (.lst (xs++zs)))
theorem zh1:MtM X "list.extend" rExtend:=by
 intro m s σ H x J v O Q I B E h;obtain⟨l,b,L,K,rfl,rfl,j,p,N,q⟩:=h;cases B;obtain⟨u,rfl,A⟩:=E.one;cases A;obtain⟨z,g,n,r,M,e⟩:=I.lstM j;obtain⟨G,a,w,y,C,o⟩:=I.lstM p;have i:g.toArray.size+a.toArray.size<=sizeLine:=by grind
 have c:¬(!g.toArray.isEmpty&&Builtin.List.listTooLong (g.toArray.size+a.toArray.size))=true:=by
  rw [zh8 i]
  simp_all
 refine call_meets F.slot_list_extend ⟨_,e,rfl⟩ F.entry_list_extend (F.args_list_extend_2 _ _)
  (AutoSeq1.list_extend_list_list_0 l _ n b _ w c (by grind) #[0]) ⟨e,o,?_⟩
 refine⟨.non,_,I.lset j e (by simp) (r.append y) ?_,rfl,q⟩
 grind
theorem zg1{α : Type}(xs:List α)(k):(Xb k xs).flatten.length=k*xs.length:=by
 simp
end
section
variable{prog:Program}{w:World}{A:Around}{E:Value->Shared->Prop}{s:Shared}
end
section
variable{X:Cx}
end
end L2
namespace Att
open PySem PySem.W PySem.Calls PyProof.Rows
theorem zkM:∀ (ns:List Int) (vs:List Value),WellAll P h vs (ns.map WData.int)->IntsAre vs ns:=by
 intro ns
 induction ns with
 | nil=>
  intro vs w;cases w;exact .nil
 | cons n ns c=>
  intro vs w;cases w with
  | cons a b=>
   cases a;exact .cons _ _ (c _ b)
theorem znd{l:OpenLaw}(s:l.most=some n)
 (b:l.row.toRowW.claim.pre args=true) (i:WellAll P h vals args) :
 ∃ a vs ns,vals=[Xs a]/\args=[WData.list (ns.map WData.int)]/\h.get? a=some { cls:=.type "list", data:=.seq vs.toArray }/\IntsAre vs ns/\ns.length<=n:=by
 have j:=(pre_splitW b).1;have q:=(pre_splitW b).2;obtain⟨d,r,rfl,o,y⟩:=hasAllW_cons j;obtain rfl:=hasAllW_nil y;obtain⟨z,rfl,v⟩:=hasW_list o;obtain⟨ns,rfl⟩:=items_int v;have e:=by
  have g:=by
   have g:=(holds_andW q).1;rw [s] at g;exact g
  have w:=condW_of g (w_not (w_lt w_lit (w_len_list (w_arg rfl))))
  first
   | grind
   | (simp at w;omega)
 cases i with
 | cons u p=>
  cases p;cases u with
  | list m c=>exact⟨_,_,ns,rfl,rfl,m,zkM ns _ c,e⟩
theorem zi2(l:OpenLaw)(a):l.row.toRowW.claim.post a (.bool true) a=true:=
 postW_of
  (by first|rfl|decide|simp)
  (w_eq_bool (w_res rfl) w_lit) rfl
theorem attach_call{l:OpenLaw}
 (H:l.most=some n) (p:d.params.defaults=[])
 (e:∀ (w:World) (s₀ s₁ : Shared) (mg mb:Str->Option Value) (fa:Addr) (o:Obj) (pm cd doc:Value) (a:Addr) (vs:List Value) (ns:List Int),
  Ground q loose [] XP w s₀ mg mb s₁.heap->YP w s₁.heap->
  s₁.heap.get? fa=some o->o.data=.func (docDef d.name d.params d.body d.scope pm cd doc)->s₁.heap.CodeRec cd d.name->mg d.name=some (.ref fa)->
  s₁.heap.get? a=some { cls:=.type "list", data:=.seq vs.toArray }->IntsAre vs ns->ns.length<=n->s₁.gens = #[]->
  codeAny (model l.prog w) callerA (.call (.ref fa) ⟨[.ref a],[]⟩) (fun r s'=>r=.ok (.ret (.bool true))/\OldK s₁.heap s'.heap/\s'.os=s₁.os/\AllBare s'.gens) s₁) :
 WalkO q loose XP YP l.row.toRowW d [] (fun f vs=>Uf f vs):=by
 intro w s₀ s₁ mg mb G Y fa o pm cd doc F E z M j v i C u y O g s B m L;obtain rfl:F=.none:=Dflts.none v p;obtain rfl:E=.none:=Dflts.noKw v;obtain⟨a,vs,ns,rfl,rfl,c,b,h⟩:=znd H g m;refine enter_call (codeAny_mono (e w s₀ s₁ mg mb fa o pm cd doc a vs ns G Y z (fd_plain M) j i c b h C) fun r s' N=>?_)
 obtain⟨rfl,K,I,J⟩:=N;exact⟨.inl ⟨_,_,[],rfl,fun _=>rfl,.bool true,zi2 l _,fun _=>⟨YX.nil,fun _ A=>(nomatch A)⟩⟩,K,I,J⟩
section
variable{prog:Program}{w:World}{A:Around}{E:Value->Shared->Prop}{s:Shared}{K:Frag}
end
end Att
namespace L2
open PySem PySem.Spec PyProof.Rows
theorem zdM:∀ {vs:List Value} {ns:List Int},IntsAre vs ns->Vals (ns.map V.int) vs:=by
 intro _ _ h;induction h with
 | nil=>exact .nil
 | cons n t _ f=>exact .cons ⟨t,rfl⟩ f
noncomputable def JW(s:Stmt):Arguments:=match s with
 | .FunctionDef _ a _ _ _ _ _ _ _ _=>a
 | _=>{ posonlyargs:=[],args:=[],vararg:=none,kwonlyargs:=[],kw_defaults:=[],kwarg:=none,defaults:=[] }
noncomputable def jN(s:Stmt):List Stmt:=match s with
 | .FunctionDef _ _ b _ _ _ _ _ _ _=>b
 | _=>[]
noncomputable def zg(s:Stmt):Scope:=match s with
 | .FunctionDef _ _ _ _ _ _ sc _ _ _=>sc
 | _=>{ kind:=.function,names:=[],isGenerator:=false,isCoroutine:=false }
structure Fun(K:Ybf)(x qual:Str)(st:Stmt)(f:Addr)(fd:FuncData):Prop where
 ex:∃ (oc:Value) (od:Option Addr) (kV doc pm:Value) (an:Option Addr) (cdv ct:Value) (osl:Array (Option Value)),
  fd=XO x qual (JW st) (jN st) (zg st) .none kV doc pm an cdv ct/\K.lookup f=some ⟨oc,od,.func fd,osl⟩/\XU K cdv qual=true
 kp:XD K (.ref f)=true
section
variable{P:Program}{w:World}{K:Ybf}{mg:Str->Option Value}{base:Heap}
theorem Fun.binds{st:Stmt}{ps:List Str}(F:Fun K x qual st f fd)
 (h:∀ (kV doc pm:Value) (an:Option Addr) (cdv ct:Value) (us:List Value),us.length=ps.length->bindArgs (XO x qual (JW st) (jN st) (zg st) .none kV doc pm an cdv ct) ⟨us,[]⟩=pure (ps.zip us)):Binds K fd ps []:=by
 obtain⟨g,c,kV,doc,pm,an,cdv,ct,b,rfl,e,a⟩:=F.ex;exact .all (h kV doc pm an cdv ct)
theorem zb5{st:Stmt}{kV:Value}(l:K.lookup f=some ⟨oc,od,.func (XO x qual (JW st) (jN st) (zg st) .none kV doc pm an cdv ct),osl⟩)
 (c:XU K cdv qual=true) (k:XD K (.ref f)=true):Fun K x qual st f (XO x qual (JW st) (jN st) (zg st) .none kV doc pm an cdv ct):=⟨⟨oc,od,kV,doc,pm,an,cdv,ct,osl,rfl,l,c⟩,k⟩
end
theorem zT(a:Room k A):A.units+1<cLine:=WaE (Nat.add_le_add_left (by decide:1<=64) _) a.units
section
variable{X:Cx}
theorem pv(i)(c:X.N[i]?=some x:=by rfl)(b:Vis X.env.scope x:=by first|exact Uq rfl|exact Wv (Uq rfl)|exact Wv (Wv rfl))(e:(x==("__debug__" : Str))=false:=by decide)
 (a:(x==("__classdict__" : Str))=false:=by decide):PE X (.Name x pos) (tVar i):=z9 c b e a
end
theorem ite2{c A B:Prop}[Decidable c](a:c->A)(b:¬c->B):if c then A else B:=by
 simp_all
def Same(H H':Hp):Prop:=∀ b o,H b=some o->H' b=some o
theorem Same.refl(H):Same H H:=fun _ _ h=>h
theorem Same.trans(a:Same H H1)(b:Same H1 H2):Same H H2:=fun c o h=>b c o (a c o h)
theorem Same.free(e:Same H H')(h:H' l=Uv):H l=Uv:=by
 cases q:H l with
 | none=>rfl
 | some o=>
  rw [e l o q] at h;cases h
theorem Same.seq{K:Ybf}(e:Same H H')(h:SqL K H a xs):SqL K H' a xs:=by
 rcases h with (h|⟨o,h⟩)|h
 . exact .inl (.inl (e _ _ h))
 . exact .inl (.inr ⟨o,e _ _ h⟩)
 . exact .inr h
end L2
end
variable{K:Ybf}{kvs:List (List L2.Key×L2.V)}{H0 H G H' G0 G' H1 G1 H2:L2.Hp}{mg:Xk->Option Yv}{pins:List (Wn×UF)}{X:L2.Cx}{E Q:Yv->WL->Prop}{P prog:PySem.Program}{i n j ep B m T t':Nat}{vs xs ys zs:List L2.V}{w:Uw}{pos pos' np spos cpos apos tpos kp cp:PySem.Pos}{s:WL}{ws sh ns done ks r path row0:List Int}{fd:PySem.FuncData}{ch tv rows:List (List Int)}{a l C tb it c0:Wn}{es elts ifs:List Ug}{e tg iter elt ke e0:Ug}{scope csc:PySem.Scope}{b y b':Int}{v:L2.V}{A:PySem.Around}{base h h':Wm}{σ:L2.St}{Ed Ch:Int->Int->Prop}{js:List Nat}{as ps fp:List Wn}{p:List Int×List (List Int)}{o:UF}{ds:List PySem.PyData}{st:UD}{u cd:Yv}{gens:List PySem.Comprehension}{N loose tn fn:List Xk}{XP:(Xk->Option Yv)->Wm->Prop}{W:Int->Int×Option Int}{c:Int->Int->Int}{params:PySem.Arguments}{R:PySem.Result->WL->Prop}{qual name:Xk}{YP:Uw->Wm->Prop}{E3:Wn->Prop}{es0:Array W4}{Rv:Nat->Yv->Prop}{p0 tp' vp' tp vp:Int->Int}{g:Bool}{id:String}{tl te:L2.TE}{env:PySem.Env}{body:List UD}{room:Int×Int}{kf:Nat->Int}{op:PySem.CmpOp}{M:PySem.Model}{ta:L2.TA}{wi:L2.TI}{tt:L2.TT}
namespace L2
open PySem PySem.Spec PyProof.Rows
def Bits(k:Nat)(x:Int):Prop:=x.natAbs<2 ^ k
theorem Bits.mono(h:Bits j x)(a:j<=k):Bits k x:=YaU h (Yk #[1] a)
theorem Bits.mul(h:Bits j x)(h':Bits k y):Bits (j+k) (x*y):=by
 unfold Bits at *;rw [Int.natAbs_mul,Nat.pow_add];exact Nat.mul_lt_mul'' h h'
theorem Bits.neg(h:Bits k x):Bits k (-x):=by unfold Bits at *;rw [Int.natAbs_neg];exact h
theorem Bits.add(h:Bits k x)(h':Bits k y):Bits (k+1) (x+y):=by
 unfold Bits at *;have:=Int.natAbs_add_le x y
 lia
theorem Bits.sub(h:Bits k x)(h':Bits k y):Bits (k+1) (x - y):=by
 have:=h.add h'.neg
 grind
theorem Bits.le(h:Bits k x)(a:y.natAbs<=x.natAbs):Bits k y:=WaE a h
theorem Bits.log2(h:Bits k x)(b:0<k):x.natAbs.log2<k:=by
 rcases Nat.eq_zero_or_pos x.natAbs with c|a
 . simp_all
 . exact(Ux (Wbo a)).mpr h
theorem Bits.bits(h:Bits k x):XE x<=k:=by
 unfold XE
 split
 . simp_all
 . have a:x.natAbs≠0:=by
    simp_all
   exact(Ux a).mpr h
theorem Bits.mulOk(h:Bits j x)(h':Bits k y)(a:j+k<=134217728):IntMulOk x y:=by
 unfold IntMulOk;have c:=h.bits;have b:=h'.bits;have e:Builtin.Int.intTooBig ((XE x)+(XE y))=false:=by
  refine decide_eq_false ?_
  have:(bitsLine)=134217728:=#[1]
  lia
 simp_all
theorem zjq:OpR X (binaryOp .Mult) (rI IntMulOk fun i j=>.int (i*j)):=opI fun _ _ _ _ _ _ _ a q=>mul_int q a
def JU(i j:Int):Prop:=0<=j/\(XE i:Int)*j<=134217728
theorem znf:OpR X (binaryOp .Pow) (rI JU fun i j=>.int (i ^ j.toNat)):=opI fun i j _ _ _ _ _ a q=>by
 refine pow_int a.1 ?_ q
 exact a.2
theorem zQ.got{o:HO}(x:zQ P w H h a o):∃ ob,h.get? a=some ob:=by
 cases o with
 | lst g=>obtain⟨_,_,_,_,e⟩:=x;grind
 | tup g=>obtain⟨_,_,_,ob,e,_⟩:=x;grind
 | dK b=>obtain⟨_,_,_,_,o,_,_,e,_⟩:=x;grind
 | dT b=>obtain⟨_,_,_,_,o,_,_,e,_⟩:=x;grind
 | set S n=>obtain⟨o,_,_,_,e,_⟩:=x;grind
 | ins C i c=>obtain⟨_,_,_,e,_⟩:=x;grind
 | own y=>obtain⟨_,e⟩:=x;grind
 | xd c=>obtain⟨_,⟨_,_,_,e,_⟩,_⟩:=x;grind
 | rng m l=>obtain⟨_,_,_,e⟩:=x;grind
 | frz ob u=>obtain⟨e,_⟩:=x;grind
 | tbl j=>exact⟨_,(x)⟩
 | met f y=>exact⟨_,(x)⟩
 | ext φ=>obtain⟨_,⟨_,e⟩,_⟩:=x;grind
theorem HOk.through{B:Heap}(x:HOk P w H h)(k:B.StaysIn h)(l:B.StaysIn h')(t:∀ b o,H b=some o->∃ o',B.get? b=some o'):HOk P w H h':=fun a o e=>
 (x a o e).stay (fun b u m q=>by
  have j:∃ g,B.get? b=some g:=by
   grind
  obtain⟨g,c⟩:=j;have i:=k b g c;rw [q] at i;cases i;exact l b _ c) (fun _ q=>q) fun _ _ q=>q
theorem Un.through{B:Heap}(a:Un fs [] H H' h h1)(g:∀ b o,h.get? b=some o->b∉fs->∃ o',B.get? b=some o')(k:B.StaysIn h1)(m:B.StaysIn h2)
 (p:∀ b∈fs,∀ o,h1.get? b=some o->∃ sl,h2.get? b=some { o with slots:=sl }):Un fs [] H H' h h2 where
 keep:=fun b o q n c i=>by
  obtain⟨o',j⟩:=g b o q c;have e:=a.keep b o q n c i;have l:=k b o' j;rw [e] at l;cases l;exact m b _ j
 slot:=fun b o q n c i=>by
  obtain⟨sl,e⟩:=a.slot b o q n c i
  grind
 free:=a.free
 there:=fun b o q i=>by
  by_cases c:b∈fs
  . obtain⟨o',e⟩:=a.there b o q i
    grind
  . obtain⟨o',j⟩:=g b o q c
    exact⟨o',m b _ j⟩
 tups:=a.tups
 frzs:=a.frzs
 tbls:=a.tbls
structure Fly(P:Program)(w:World)(stack:List Env)(H:Hp)(s:Shared)(ea C:Addr)(H':Hp)(s':Shared):Prop where
 os:s'.os=s.os
 bare:AllBare s'.gens
 un:Un (frs stack) [] H H' s.heap s'.heap
 hok:HOk P w H' s'.heap
 fly:∃ B a0,Heap.FlyingW B stack ea (.ref C) a0 s'.heap/\(∀ b o,s.heap.get? b=some o->b∉frs stack->∃ o',B.get? b=some o')/\(∀ b o,H' b=some o->∃ o',B.get? b=some o')
def CXR(P:Program)(w:World):CXT:=fun outer H s E e s'=>∃ ea C H',e=.ref ea/\Fly P w outer H s ea C H' s'/\E (.ref C) none H'
theorem zkq{B:Heap}{l:List Env}(i:h.FunFrames B l)(g:h.UpToSlots h'):∀ b∈frs l,∀ o,h.get? b=some o->∃ sl,h'.get? b=some { o with slots:=sl }:=fun b j o c=>by
 obtain⟨_,m,a,e⟩:=i.mem j;rw [c] at a;cases a;exact g b o c e
section
variable{f:Addr}{outer:List Env}{s₀: Shared}{H₀: Hp}{E:XK}{CX:CXT}
theorem zfr(I:Inv (cxOf CX P w K mg base N qual scope f cd A outer s₀ H₀ E) pins σ H s){b:Addr}(q:s₀.heap.get? b=some o)(c:b∉frs outer) :
 b∉frs (cxOf CX P w K mg base N qual scope f cd A outer s₀ H₀ E).stack:=fun z=>by
 rcases Wbe.mp (I.stkSub b z) with e|e
 . have a:=YaX q
   rw [e] at a;exact Yap _ a
 . exact c e
theorem zfO(I:Inv (cxOf CX P w K mg base N qual scope f cd A outer s₀ H₀ E) pins σ H s){b:Addr}(q:s₀.heap.get? b=some o):∃ o',s.heap.get? b=some o':=
 I.base.there b o q (fun z=>absurd (show b∈([]) from z) (by simp))
theorem zp:Passes (CXR P w) (cxOf (CXR P w) P w K mg base N qual scope f cd A outer s₀ H₀ E) E:=by
 intro l σ H s e O I h;obtain⟨r,C,n,rfl,F,q⟩:=h;obtain⟨B,m,i,j,g⟩:=F.fly;have J:=I.call' F.os F.un F.hok F.bare (fun b z=>absurd z (by simp))
 have a:∀ b o,s₀.heap.get? b=some o->b∉frs outer->∃ u,B.get? b=some u:=fun b o z y=>by
  obtain⟨p,v⟩:=zfO I z;exact j b p v (zfr I z y)
 refine wpAny_leaves_onW I.ok.frames rfl i fun M c G=>?_
 have L:=zkq (i.2.2.1).2.2 G;exact⟨r,C,n,rfl,⟨J.os,F.bare,J.base.through a i.1 c.1 L,F.hok.through i.1 c.1 g,B,m,c,a,g⟩,q⟩
def Flies(X:Cx)(E:XK):Prop:=∀ (pins:List (Addr×Obj)) (σ : St) (H:Hp) (s:Shared) (e C:Addr) (vs:List Value) (h1:Heap),Inv X pins σ H s->Heap.MadeExcOf s.heap h1 e (.ref C) vs->E (.ref C) none H->X.xe (.ref e) { s with heap:=h1 }
theorem jv:Flies (cxOf (CXR P w) P w K mg base N qual scope f cd A outer s₀ H₀ E) E:=by
 intro u σ H s e C Q r I M q;have j:(Yo s.heap (frs (cxOf (CXR P w) P w K mg base N qual scope f cd A outer s₀ H₀ E).stack)).StaysIn _:=fun b o z=>Wt _ z
 have h:∀ b o,H b=some o->∃ m,(Yo _ _).get? b=some m:=fun b o z=>by
  obtain⟨B,l⟩:=(I.hok b o z).got;exact⟨B,Yq _ l fun y=>by rw [I.stkFree b y] at z;cases z⟩
 have g:∀ b o,s₀.heap.get? b=some o->b∉frs outer->∃ m,(Yo _ _).get? b=some m:=fun b o z c=>by
  obtain⟨F,r⟩:=zfO I z;exact⟨F,Yq _ r (zfr I z c)⟩
 refine wpAny_leaves_madeW I.ok.frames rfl j
  (PySem.W.funFrames_hide I.stack fun n v b c=>YD.mpr ⟨n,v,c⟩) M fun G t i U S J=>?_
 have O:∀ b∈frs outer,∀ o,s.heap.get? b=some o->∃ T,G.get? b=some _:=fun b c o p=>by
  obtain⟨_,R,a,L⟩:=I.funs.mem c;rw [p] at a;cases a;exact J b o (M.keeps b o p) L
 exact⟨e,C,H,rfl,⟨I.os,I.bare,I.base.through g j i.1 O,I.hok.through j i.1 h,_,_,i,g,h⟩,q⟩
end
noncomputable def bmVE:List Value:=[.type "ValueError", .type "Exception", .type "BaseException", .type "object"]
theorem zks(X:K.In h)(q:Xw K C bmVE "ValueError.__new__" = true) :
 ∃ bm N nm qn bs hdct sn sub ab col dd k0 k1 k2 k3 k5 mN,h.get? C=some (excClassObj nm qn C N bs bm hdct sn sub ab col dd k0 k1 k2 k3 k5 "ValueError.__new__")/\h.Ns N mN/\mN "__init__" = none/\OwnTail h bmVE bm:=by
 unfold Xw at q
 split at q
 . rename_i dd b s o
   split at q
   . rename_i E bm k0 k1 k2 k3 n k5 e g
     rw [Yak,Yak,Yak,Yak,Yak] at q;obtain⟨⟨⟨⟨⟨r,p⟩,c⟩,v⟩,a⟩,z⟩:=q;have y:=beq_iff_eq.mp r;have m:=beq_iff_eq.mp p;have i:=beq_iff_eq.mp z;obtain⟨nm,bs,B,u,qn,A,sn,sub,ab,col,w⟩:=b;obtain⟨l⟩:=s;dsimp only at e c a i g;have j:=by simpa using c
     subst y m j e g;exact⟨bm,u,nm,qn,bs,A,sn,sub,ab,col,dd,k0,k1,k2,k3,k5,_,X _ _ o,.of_isNs (PySem.W.isNs_of_in X a),PySem.W.nsMap_none_of_in X a i,PySem.W.tail_of_in X v⟩
   . cases q
 . cases q
def zh2(C:Addr)(E:XK)(t:TA):TS:=fun _ σ H=>t σ H fun vs H1=>vs.length<=sizeLine/\E (.ref C) none H1
theorem zkb{E:XK}(A:Flies X E)(F:X.calm=true)(v:Gl X x)(p:X.mg x=some (.ref C))(u:Xw X.K C bmVE "ValueError.__new__" = true)(w:PA X [e0] t)
 (c:(x==("__debug__" : Str))=false:=by decide) (i:starEach [e0] X.env=[(false,eval e0 X.env)]:=by rfl):PS X (.Raise (some (.Call (.Name x np) [e0] [] cpos)) none pos) (zh2 C E t):=by
 intro g s σ H D I h;refine Hd fun k Q=>?_;obtain⟨O,o,nm,q,bs,hdct,sn,sub,ab,col,dd,k0,k1,k2,k3,k5,L,y,J,b,T⟩:=zks I.ok.mod.kin u;apply Q;refine wpAny_Raise_call_subT (nm:=nm) (q:=q) (N:=o) (bs:=bs) (hdct:=hdct) (sn:=sn) (sub:=sub) (ab:=ab) (col:=col) (dd:=dd) (k0:=k0) (k1:=k1) (k2:=k2) (k3:=k3) (k5:=k5)
  PySem.F.excBase_ValueError (T.hasType rfl) (I.ok.hd F) (by rw [i];rfl) b (zbH I v p ⟨rfl,?_⟩ c)
 have j:=w cpos _ s σ H _ I h;rw [i] at j ⊢;refine Wax (wpAny_mono j (fun G l z=>?_) fun _ _ z=>z)
 refine Hd fun k Q=>?_;obtain⟨K,n,a,r,z,m⟩:=z;apply Q;exact⟨rfl,by rw [<-r.length];exact z,a.bk _ _ y,J.keeps a.bk,T.keeps a.bk,fun B e M=>A _ σ n l e C G B a M m⟩
theorem Fun.okR{ps:List Str}{sp:Sp}(F:Fun K x qual st f fd)(S:FnScope N ps (zg st))(c:∀ vs H Q E,sp vs H Q E->vs.length=ps.length)
 (a:∀ (cdv:Value) (A:Around) (outer:List Env) (s:Shared) (H:Hp) (vs:List V) (Q:VK) (E:XK),Room k (A.deeper (envOfC qual (zg st) s.heap.objs.size f cdv))->sp vs H Q E->
  ∃ t,PSs (cxOf (CXR P w) P w K mg base N qual (zg st) f cdv A outer s H E) (jN st) t/\t { nx:=fun _ H'=>Q .non H',rt:=Q } (start N vs) H):FnOk P w K mg base (CXR P w) (k+1) f fd ps sp:=by
 refine Hd fun G O=>?_;obtain⟨o,m,q,g,n,l,cdv,p,j,rfl,i,e⟩:=F.ex;apply O;exact zbB i e S c fun A outer s H vs Q E h b=>a cdv A outer s H vs Q E h b
noncomputable def excO(ea C:Addr):HO:=.ext fun h=>∃ o vs,h.get? ea=some o/\o.cls=.ref C/\o.data=.fields vs
theorem HOk.track{o:HO}(x:HOk P w H h)(g:H a=none)(j:zQ P w (upd H a o) h a o):HOk P w (upd H a o) h:=fun b u e=>by
 by_cases i:b=a
 . subst i;rw [zf] at e;grind
 . rw [zc i] at e
   exact(x b u e).stay (fun c v _ q=>q) (fun c q=>by rw [zc (je q g)];exact q) fun c l q=>by rw [zc (je q g)];exact q
theorem zhV:bootBuiltins "int" = some (.type "int"):=#[3]
theorem zcX:bootBuiltins "list" = some (.type "list"):=#[3]
theorem zm8:bootBuiltins "zip" = some (.type "zip"):=#[3]
theorem zC:bootBuiltins "len" = some (.builtin "len"):=#[3]
theorem zcN:bootBuiltins "abs" = some (.builtin "abs"):=#[3]
theorem zdx:bootBuiltins "max" = some (.builtin "max"):=#[3]
theorem zgg:bootBuiltins "min" = some (.builtin "min"):=#[3]
theorem Jw:bootBuiltins "sum" = some (.builtin "sum"):=#[3]
section
variable{ea:Addr}
end
mutual
inductive RdV(K:Ybf)(H:Hp):V->PyData->Prop
 | non:RdV K H .non .none
 | bl (b:_):RdV K H (.bl b) (.bool b)
 | int (i:_):RdV K H (.int i) (.int i)
 | str (x:_):RdV K H (.str x) (.str x)
 | lst {a xs ds:_}:SqL K H a xs->RdVs K H xs ds->RdV K H (.ref a) (.list ds)
 | tup {a xs ds:_}:SqT K H a xs->RdVs K H xs ds->RdV K H (.ref a) (.tuple ds)
inductive RdVs(K:Ybf)(H:Hp):List V->List PyData->Prop
 | nil:RdVs K H [] []
 | cons {x xs d ds:_}:RdV K H x d->RdVs K H xs ds->RdVs K H (x::xs) (d::ds)
end
theorem RdV.reads(I:Inv X pins σ H s):∀ {x:V} {d:PyData} {u:Value},RdV X.K H x d->RelV x u->∃ as,Reads s.heap u d as:=fun {_ _ u} h=>RdV.rec (motive_1:=fun x d _=>∀ u,RelV x u->∃ as,Reads s.heap u d as) (motive_2:=fun x d _=>∀ u,Vals x u->∃ as,ReadsAll s.heap u d as) (fun _ r=>by cases r;exact⟨_,.none⟩) (fun b _ r=>by cases r;exact⟨_,.bool b⟩) (fun i _ r=>by obtain⟨t,rfl⟩:=r;exact⟨_,.int i t⟩) (fun x _ r=>by obtain⟨t,rfl⟩:=r;exact⟨_,.str x t⟩)
 (fun hq _ f _ r=>by cases r;obtain⟨its,rv,⟨o,n,ho,hc,_,hd⟩,_⟩:=I.list hq;obtain⟨as,q⟩:=f _ rv;exact⟨_,.list ho hc hd q⟩)
 (fun hq _ f _ r=>by cases r;obtain⟨its,rv,⟨o,ho,hc,n,hd⟩,_⟩:=I.tuple hq;obtain⟨as,q⟩:=f _ rv;exact⟨_,.tuple ho hc hd q⟩) (fun _ r=>by cases r;exact⟨_,.nil⟩)
 (fun _ _ f g _ r=>by cases r with|cons r t=>obtain⟨as,q⟩:=f _ r;obtain⟨bs,p⟩:=g _ t;exact⟨_,.cons q p⟩) h u
def rEqD(K:Ybf):R2:=fun x y H Q=>∃ d e,RdV K H x d/\RdV K H y e/\Xt d=true/\Xt e=true/\Q (.bl (XL d e)) H
def rNeD(K:Ybf):R2:=fun x y H Q=>∃ d e,RdV K H x d/\RdV K H y e/\Xt d=true/\Xt e=true/\Q (.bl (!PyData.eqv d e)) H
theorem zlY(g:X.A.units+64<cLine):OpR X (compareOp .Eq) (rEqD X.K):=by
 intro a s σ H x y v u Q I m n h;obtain⟨d,e,l,o,i,b,q⟩:=h;obtain⟨p,j⟩:=l.reads I m;obtain⟨r,c⟩:=o.reads I n;exact eq_dataH j c i b g ⟨.bl _,H,I,rfl,q⟩
theorem zi7(g:X.A.units+64<cLine):OpR X (compareOp .NotEq) (rNeD X.K):=by
 intro a s σ H x y v u Q I m n h;obtain⟨d,e,l,o,i,b,q⟩:=h;obtain⟨p,j⟩:=l.reads I m;obtain⟨r,c⟩:=o.reads I n;exact ne_dataH j c i b g ⟨.bl _,H,I,rfl,q⟩
def jY(_ j:Int):Prop:=0<j/\Bits 9000 j
theorem zlW:OpR X (binaryOp .FloorDiv) (rI jY fun i j=>.int (i/j)):=opI fun i j _ _ _ _ _ a q=>
 floordiv_int (by have:=a.1;omega) (by rw [Int.fdiv_eq_ediv_of_nonneg i (by have:=a.1;omega)];exact q) (.inl (PyProof.noPylong_of_log2 (a.2.log2 #[1])))
def Df(P:Program)(w:World)(K:Ybf)(mg:Str->Option Value)(base:Heap)(k:Nat)(x:Str)(ps:List Str)(sp:Sp):Prop:=
 ∃ f fd,FnOk P w K mg base (CXR P w) k f fd ps sp/\Binds K fd ps []/\XD K (.ref f)=true/\mg x=some (.ref f)
section
variable{k:Nat}{ps:List Str}{sp:Sp}{x:Str}{p:Pos}{t:TA}{E:XK}
theorem jy(G:Df X.prog X.w X.K X.mg X.base k x ps sp)(j:Room k X.A)(m:Gl X x)(l:Passes (CXR X.prog X.w) X E)(n:PA X (e::es) t)(b:(x==("__debug__" : Str))=false:=by decide)
 (g:starEach (e::es) X.env=(false,eval e X.env)::starEach es X.env:=by rfl) (a:(backTo pos (starEach es X.env)).any (·.1)=false:=by rfl):PE X (.Call (.Name x p) (e::es) [] pos) (zen sp [] E t):=by
 obtain⟨f,o,F,h,c,i⟩:=G;exact ziS F j m i c h .nil l n b g a
end
section
variable{o:Expr}{to:TE}{t:TA}
theorem zde(i:PE X o to)(j:PA X [e] t)(c:attributeBase o "append" X.env (eval o X.env)=eval o X.env:=by rfl)
 (a:((backTo pos (starEach [e] X.env)).all (fun x=>!x.1)&&(backToKw pos (keywordEach [] X.env)).all (fun x=>x.1.isSome)&&decide ([e].length+([]:List Keyword).length+(if([]:List Keyword).isEmpty then 0 else 1)<30))=true:=by rfl)
 (h:(apos.endLine==pos.line)=true:=by rfl) (g:starEach [e] X.env=(false,eval e X.env)::starEach [] X.env:=by rfl) (b:(backTo pos (starEach [] X.env)).any (·.1)=false:=by rfl) :
 PE X (.Call (.Attribute o "append" apos) [e] [] pos) (tBM X.K "list" rAppend to t):=
 zdG Waj PySem.F.slot_list_append PySem.F.type_list_append zgj i j c a h g b
theorem zdO{p:Addr}(h:H p=some (.lst xs)):tyV K "list" (.ref p) H:=.inl ⟨rfl,_,SqL.of h⟩
end
section
variable{g:TG}{tb:TS}{D:Ends}
end
theorem zx{p:Addr}(h:H p=none)(o):Same H (upd H p o):=fun b u q=>by rw [zc (je q h)];exact q
theorem Same.tup(e:Same H H')(h:SqT K H a xs):SqT K H' a xs:=by
 rcases h with (h|⟨o,h⟩)|h
 . exact .inl (.inl (e _ _ h))
 . exact .inl (.inr ⟨o,e _ _ h⟩)
 . exact .inr h
theorem atI0{x:α}{xs:List α}:atI (x::xs) 0=some x:=jb (j:=0) rfl
theorem atI1{x y:α}{xs:List α}:atI (x::y::xs) 1=some y:=jb (j:=1) rfl
end L2
section
open PySem PySem.Spec PyProof.Rows L2
namespace L2
end L2
namespace L2
theorem Bits.emod{m:Int}(a:Bits k m)(b:0<m)(x):Bits k (x%m):=a.le (by
 have c:=Ybc x (by lia:m≠0)
 have e:=Ybd x b
 lia)
theorem Bits.lit(k)(h:x.natAbs<2 ^ 64:=by decide)(a:64<=k:=by decide):Bits k x:=Bits.mono h a
theorem divP{i j:Int}(a:0<j:=by decide)(h:j.natAbs<2 ^ 64:=by decide):jY i j:=⟨a,Bits.lit _ h #[1]⟩
theorem powB{i j:Int}(h:Bits k i)(a:0<=j)(c:k*j.toNat<=134217728):JU i j:=⟨a,by
 have e:=h.bits;have b:(XE i)*j<=(k)*j:=Ybe #[0] a
 grind⟩
end L2
end
namespace L2
open PySem PySem.Spec PyProof.Rows
noncomputable def zgq(osc scope:Scope)(tn fn:List Str):Bool:=
 decide (scope.kind=.function)&&scope.names.all (fun x=>!decide (x.2=.local)||decide (scope.names.lookup x.1=some .local)) &&
 scope.names.all (fun x=>!decide (x.2=.cell)||decide (scope.names.lookup x.1=some .cell)) &&
 scope.names.all (fun x=>!decide (x.2=.free)||decide (osc.names.lookup x.1=some .cell)||decide (osc.names.lookup x.1=some .free)) &&
 tn.all (fun x=>decide (scope.names.lookup x=some .local)||decide (scope.names.lookup x=some .cell)) &&
 fn.all (fun x=>decide (scope.names.lookup x=some .free))&&decide ((tn++fn).Nodup)
structure CompSc(osc scope:Scope)(tn fn:List Str):Prop where
 kind:scope.kind=.function
 loc:∀ x∈scope.names,x.2=.local->scope.names.lookup x.1=some .local
 cell:∀ x∈scope.names,x.2=.cell->scope.names.lookup x.1=some .cell
 free:∀ x∈scope.names,x.2=.free->osc.names.lookup x.1=some .cell\/osc.names.lookup x.1=some .free
 frees:∀ x∈fn,scope.names.lookup x=some .free
 nd:(tn++fn).Nodup
theorem z0(h:zgq osc scope tn fn=true):CompSc osc scope tn fn:=by
 unfold zgq at h;simp only [Yak,decide_eq_true_eq,WaX,Bool.or_eq_true,WaJ,decide_eq_false_iff_not] at h;obtain⟨⟨⟨⟨⟨⟨i,g⟩,c⟩,l⟩,m⟩,j⟩,b⟩:=h;refine⟨i,fun x a e=>(g x a).resolve_left (fun n=>n e),fun x a e=>(c x a).resolve_left (fun n=>n e),fun x a e=>?_,j,b⟩
 grind
theorem zcy(env:Env):∀ (names:List (Str×NameKind)) (x:Str),
 (names.map fun(n,k)=>if(k==Yl&&env.scope.kind==.function&&env.kindOf n==some .cell) then(n,YY) else(n,k)).lookup x =
  (names.lookup x).map fun k=>if(k==Yl&&env.scope.kind==.function&&env.kindOf x==some .cell) then YY else k
 | [],x=>rfl
 | (n, k) :: r, x => by
  have a:=zcy env r x
  grind
theorem zf5(h:(relabel scope env).names.lookup x=some k):∃ k',scope.names.lookup x=some k'/\(k'=k\/(k'=.free/\k=.cell)):=by
 have e:=zcy env scope.names x;have a:(scope.names.map _).lookup x=some k:=h;rw [a] at e;cases q:scope.names.lookup x with
 | none=>simp_all
 | some k'=>
  grind
theorem zlP(h:scope.names.lookup x=some .free):(relabel scope env).names.lookup x=some .cell\/(relabel scope env).names.lookup x=some .free:=by
 have e:=zcy env scope.names x;rw [h] at e;have a:(relabel scope env).names.lookup x=some _:=e
 omega
theorem JR:∀ (names:List (Str×NameKind)) (n:Nat) (acc:List (Str×Addr)),cellsFrom n names acc=cellsFrom n names []++acc
 | [],_,acc=>rfl
 | (x, k) :: r, n, acc => by
  unfold cellsFrom
  split
  . rw [JR r _ _,JR r _ [(x,n)],Yag];rfl
  . exact JR r n acc
theorem zcW:∀ (names:List (Str×NameKind)) (n:Nat) (x:Str) (c:Addr),(x,c)∈cellsFrom n names []->(x,YY)∈names
 | [],_,_,_,h=>by cases h
 | (y, k) :: r, n, x, c, h => by
  unfold cellsFrom at h
  split at h
  . rw [JR] at h
    rcases Ya3.mp h with q|q
    . exact YaT _ (zcW r _ x c q)
    grind
  . exact YaT _ (zcW r _ x c h)
theorem zlV(h:∀ x∈scope.names,x.2=.free->∃ c,env.cells.lookup x.1=some c) :
 ∃ cl,closureFor scope env=pure cl/\(∀ x c,cl.lookup x=some c->env.cells.lookup x=some c)/\∀ x,(x,Yl)∈scope.names->∃ c,cl.lookup x=some c:=by
 have key:∀ (f:Str×NameKind->List (Str×Addr)->Sem (ForInStep (List (Str×Addr)))),(∀ n k cs,f (n,k) cs=if k==.free then(do let a <-cellOf env n;pure (XS ((n,a)::cs))) else pure (XS cs))->
  ∀ (names:List (Str×NameKind)) (i:List (Str×Addr)),(∀ x∈names,x.2=.free->∃ c,env.cells.lookup x.1=some c)->(∀ x c,i.lookup x=some c->env.cells.lookup x=some c)->
  ∃ cl,(forIn names i f)=pure cl/\(∀ x c,cl.lookup x=some c->env.cells.lookup x=some c)/\
   (∀ x,(x,Yl)∈names->∃ c,cl.lookup x=some c)/\∀ x,(∃ c,i.lookup x=some c)->∃ c,cl.lookup x=some c:=by
  intro f G names
  induction names with
  | nil=>intro i _ ha;exact⟨i,rfl,ha,fun x hx=>(by cases hx),fun x q=>q⟩
  | cons y r ih=>
   intro i B ha;obtain⟨n,k⟩:=y
   by_cases hk:k=.free
   . subst hk
     obtain⟨c,hc⟩:=B (n,.free) YaV rfl;have o:=hc;obtain⟨cl,e1,e2,e3,v⟩:=ih ((n,c)::i) (fun x hx=>B x (YaT _ hx)) (fun x c' q=>by
      rw [WS] at q
      by_cases hx:x=n
      . subst hx;simp at q;subst q;exact o
      . rw [beq_eq_false_iff_ne.mpr hx] at q;exact ha x c' q)
     refine⟨cl,?_,e2,fun x hx=>?_,fun x q=>v x ?_⟩
     . rw [List.forIn_cons,G]
       have ec:cellOf env n=pure c:=by unfold cellOf;rw [o]
       simp only [beq_self_eq_true,if_true,ec];exact e1
     . rcases Wbe.mp hx with e|e
       . cases e;exact v n ⟨c,by simp [WS]⟩
       . exact e3 x e
     grind
   . obtain⟨cl,e1,e2,e3,v⟩:=ih i (fun x hx=>B x (YaT _ hx)) ha
     refine⟨cl,?_,e2,fun x hx=>?_,v⟩
     . simp_all
     . rcases Wbe.mp hx with e|e
       . cases e;exact absurd rfl hk
       . exact e3 x e
 unfold closureFor;obtain⟨cl,e1,e2,e3,_⟩:=key (fun x r=>match x with|(name,kind)=>if kind==.free then(do let a <-cellOf env name;pure (XS ((name,a)::r))) else pure (XS r)) (fun _ _ _=>rfl) scope.names [] h (fun x c q=>by cases q)
 refine⟨cl,?_,e2,e3⟩
 have e:∀ (x:Sem (List (Str×Addr))),x=pure cl->(x >>= fun r=>pure r)=pure cl:=fun x q=>by rw [q];rfl
 exact e _ e1
noncomputable def zmS(scope:Scope)(C:Addr)(cells:List (Str×Addr))(env:Env):Env:=
 { scope:=relabel scope env,locals:=C,globals:=env.globals,cells:=cells,qual:=env.qual,func:=none,code:=env.code,frame:=env.frame,builtins:=env.builtins }
noncomputable def Cx.comp(X:Cx)(scope:Scope)(N:List Str)(s:Shared)(H:Hp)(fp:List Addr)(cl:List (Str×Addr)):Cx where
 prog:=X.prog
 w:=X.w
 K:=X.K
 mg:=X.mg
 base:=X.base
 A:=X.A
 N:=N
 s₀:=s
 H₀:=H
 env:=zmS scope s.heap.objs.size (cellsFrom (s.heap.objs.size+1) scope.names cl) X.env
 outer:=X.stack
 stack:=X.stack
 ex:=fp
 fn:=fun x=>decide (scope.names.lookup x=some .cell)
 calm:=X.calm
 pn:=[]
 xe:=fun _ _=>False
noncomputable def cst(n:Nat)(js:List Nat)(σ : St):St:=Xb n none++js.map fun j=>(σ[j]?).join
theorem zlv{cl:List (Str×Addr)}(I:Inv X pins σ H s)(S:CompSc X.env.scope scope tn fn)
 (hj:js.map (fun j=>X.N[j]?)=fn.map some) (C:∀ b∈fp,FpOk X pins H b) (M:∀ b∈fp,b<s.heap.objs.size)
 (L:∀ x c,cl.lookup x=some c->X.env.cells.lookup x=some c) (F:∀ x,(x,Yl)∈scope.names->∃ c,cl.lookup x=some c) :
 Inv (X.comp scope (tn++fn) s H fp cl) [] (cst tn.length js σ) H { s with heap:=pushCells (s.heap.push { cls:=.type "dict", data:=.dict #[] }) scope.names }:=by
 have Q:=cellsFrom_ok scope.names (s.heap.push { cls:=.type "dict", data:=.dict #[] }) (s.heap.objs.size+1) [] ⟨fun _ _ hm=>(nomatch hm),YX.nil⟩ (by rw [Wba];exact YaY _)
 rw [Wba] at Q;have w:∀ b o,s.heap.get? b=some o->(pushCells (s.heap.push { cls:=.type "dict", data:=.dict #[] }) scope.names).get? b=some o:=fun b o e=>pushCells_keeps _ _ b o (YaW _ e)
 have h:∀ x c,(cellsFrom (s.heap.objs.size+1) scope.names cl).lookup x=some c->((x,c)∈cellsFrom (s.heap.objs.size+1) scope.names [])\/X.env.cells.lookup x=some c:=fun x c e=>by
  rw [JR,YE] at e;cases q:(cellsFrom (s.heap.objs.size+1) scope.names []).lookup x with
  | some c'=>rw [q] at e;cases e;exact .inl (WaA q)
  | none=>rw [q] at e;exact .inr (L x c e)
 have g:∀ x c,X.env.cells.lookup x=some c->c<s.heap.objs.size:=fun x c e=>by
  obtain⟨v,q⟩:=I.cell x c e;exact q.lt
 have a:=fun x c e=>(Q.empty x c e).2
 refine⟨⟨I.ok.mod,S.kind,I.ok.glob,I.ok.blt,YaY _,fun x y c N A=>?_,fun x K=>?_,fun x c N A=>?_,I.ok.hd,I.ok.frames,.inl rfl,fun b E=>⟨Yaf (M b E),fun x c e=>?_⟩,fun b o e=>I.bs b o e,Ya5 I.ok.bsz I.sz,fun b o e E=>?_,fun b E hz=>?_,I.stack,I.stkFree⟩,
  rfl,I.bare,Un.kept w,⟨fun _=>none,?_,fun i x v N A h3=>?_⟩,fun x c e=>?_,I.hok.fresh (YaY _),fun x c e=>?_,fun p hp=>?_,I.hok.kept w,?_⟩
 . rcases h x c N with q|q<;>rcases h y c A with r|r
   . exact name_of_addr Q.apart q r
   . exact absurd (Wbp (g y c r) (a x c q)) (Yap _)
   . exact absurd (Wbp (g x c q) (a y c r)) (Yap _)
   . exact I.ok.inj x y c q r
 . have G:∀ k,scope.names.lookup x=some k->k=.cell\/k=.free->∃ c,(cellsFrom (s.heap.objs.size+1) scope.names cl).lookup x=some c:=fun k W U=>by
    refine Wah.mp (Wam _ _ _ ?_)
    rcases U with rfl|rfl
    . exact .inl W
    . obtain⟨c,q⟩:=F x (WaA W)
      exact .inr (by rw [q];rfl)
   rcases K with K|K
   . obtain⟨P,e,q|q⟩:=zf5 (scope:=scope) (env:=X.env) K
     . subst q;exact G _ e (.inl rfl)
     . exact G _ e (.inr q.1)
   . obtain⟨P,e,q|q⟩:=zf5 (scope:=scope) (env:=X.env) K
     . subst q;exact G _ e (.inr rfl)
     . cases q.2
 . have hc:scope.names.lookup x=some .cell:=of_decide_eq_true N
   rcases h x c A with q|q
   . exact Wbn (a x c q)
   . exfalso
     have n:(cellsFrom (s.heap.objs.size+1) scope.names cl).lookup x=some c:=A;rw [JR,YE] at n;obtain⟨c',Y⟩:=Wah.mp (Wam scope.names (s.heap.objs.size+1) [] (.inl hc));rw [Y] at n;cases n;exact absurd (Wbp (g x c q) (a x c (WaA Y))) (Yap _)
 . rcases h x c e with q|q
   . intro z;subst z
     exact absurd (Wbp (M c E) (a x c q)) (Yap _)
   . exact(C b E).2.2.2.2.1 x c q
 . rcases(C b E).2.2.2.1 with z|z
   . exact I.ok.noex b o e z
   . exact absurd (YaU (YaX (I.ok.bs b o e).1) z) (Yap _)
 . rcases Wbe.mp (I.stkSub b hz) with z|z
   . exact(C b E).2.1 z
   . exact(C b E).2.2.1 z
 . exact(Heap.Ns.new s.heap (.type "dict")).keeps (pushCells_keeps _ _)
 . unfold cst at A
   by_cases R:i<tn.length
   . rw [Yab (by simpa using R),Yad,if_pos R] at A
     cases A
   . rw [Yae (by simpa using R),Ybb,Ya0] at A
     cases ej:js[i - tn.length]? with
     | none=>rw [ej] at A;cases A
     | some j=>
      rw [ej] at A;have n:(σ[j]?).join=some v:=Wa3 A;have T:σ[j]?=some (some v):=by
       cases q:σ[j]? with
       | none=>rw [q] at n;cases n
       | some o => rw [q] at n; cases o with
        | none=>cases n
        | some v'=>cases n;rfl
      have J:(tn++fn)[i]?=some x:=N;rw [Yae #[0]] at J
      have hN:X.N[j]?=some x:=by
       have e:=congrArg (fun l=>l[i - tn.length]?) hj
       simp only [Ya0,ej,J,XT] at e;exact Wa3 e
      have B:scope.names.lookup x=some .free:=S.frees x (Yah J);obtain⟨m,hn,hl⟩:=I.loc;have ok:=S.free (x,.free) (WaA B) rfl;obtain⟨u,r,l⟩:=hl j x v hN T (by rcases ok with z|z;exact .inr (.inl z);exact .inr (.inr z))
      refine⟨u,r,.inr ⟨zlP B,?_⟩⟩
      rcases l with ⟨k,_⟩|⟨_,c,ec,q⟩
      . have P:X.env.scope.names.lookup x=some .local:=k
        rcases ok with z|z<;>rw [z] at P<;>cases P
      . refine⟨c,?_,q.keeps w⟩
        show(cellsFrom (s.heap.objs.size+1) scope.names cl).lookup x=some c
        rw [JR,YE];have e1:(cellsFrom (s.heap.objs.size+1) scope.names []).lookup x=none:=by
         cases q1:(cellsFrom (s.heap.objs.size+1) scope.names []).lookup x with
         | none=>rfl
         | some c1=>
          have e2:=S.cell (x,.cell) (zcW _ _ _ _ (WaA q1)) rfl;have O:scope.names.lookup x=some .cell:=e2;rw [B] at O;cases O
        obtain⟨c2,Z⟩:=F x (WaA B);have:=L x c2 Z;rw [ec] at this;cases this;rw [e1,Z];rfl
 . rcases h x c e with q|q
   . exact⟨_,(Q.empty x c q).1⟩
   . obtain⟨v,z⟩:=I.cell x c q
     exact⟨v,z.keeps w⟩
 . rcases h x c e with q|q
   . exact I.hok.fresh (Wbn (a x c q))
   . exact I.freeC x c q
 . exact absurd (show p∈([]:List (Addr×Obj)) from hp) (by simp)
 . unfold cst
   show _=(tn++fn).length
   have:js.length=fn.length:=by have:=congrArg Ya hj;simpa using this
   rw [YaS,Ybb,YaR,YaS,this]
theorem Inv.turnedL{ch:List Addr}(I:Inv X pins σ H s)(k:∀ b o,b∉ch->s.heap.get? b=some o->h'.get? b=some o)(a:∀ b∈ch,FpOk X pins H b):Inv X pins σ H { s with heap:=h',toks:=t' }:=by
 have w:∀ b u,H b=some u->b∉ch:=fun b u e z=>by have:=(a b z).1;grind
 refine I.step (fun b h=>⟨(a b h).2.2.2.1,(a b h).2.1,(a b h).2.2.2.2.1,(a b h).2.2.2.2.2⟩) (fun b o _ _ g e _=>k b o g e) (fun b o _ _ g e _=>⟨_,k b o g e⟩) (fun _ _ _ _ n=>n)
  (fun b o g e=>⟨o,k b o g e⟩) (fun _ _ e=>e) (fun _ _ _ e=>e) (fun b y e=>⟨#[],by grind⟩) (fun m j=>?_) (fun b u e=>?_) I.bare
 . obtain⟨o,p,l,i,r⟩:=j
   exact⟨o,p,l,k _ o (fun z=>(a _ z).2.1 rfl) i,r⟩
 . refine(I.hok b u e).stay (fun c v g q=>k c v ?_ q) (fun _ q=>q) fun _ _ q=>q
   grind
theorem Inv.track{a:Addr}{o:HO}(I:Inv X pins σ H s)(i:H a=none)(E:X.s₀.heap.objs.size<=a)(F:a≠X.env.locals)(C:∀ x c,X.env.cells.lookup x=some c->c≠a)(v:∀ p∈X.pn++pins,p.1≠a)(l:zQ X.prog X.w (upd H a o) s.heap a o):Inv X pins σ (upd H a o) s:=by
 have j:∀ b g,X.s₀.heap.get? b=some g->b≠a:=fun b g e=>Yaf (YaU (YaX e) E)
 refine⟨I.ok,I.os,I.bare,⟨I.base.keep,I.base.slot,fun b g q n w=>?_,I.base.there,fun b A q=>?_,fun b g u q=>?_,fun b z q=>?_⟩,I.loc,I.cell,?_,fun x c e=>?_,fun p h=>?_,I.hok.track i l,I.len⟩
 . rw [zc (j b g q)];exact I.base.free b g q n w
 . have e:=I.base.tups b A q;rw [zc (je e i)];exact e
 . have e:=I.base.frzs b g u q;rw [zc (je e i)];exact e
 . obtain⟨m,e⟩:=I.base.tbls b z q;exact⟨m,by rw [zc (je e i)];exact e⟩
 . rw [zc (WbA F)];exact I.free
 . rw [zc (C x c e)];exact I.freeC x c e
 . obtain⟨B,y,r⟩:=I.pin p h
   exact⟨B,by rw [zc (v p h)];exact y,r⟩
def tTrue:TT:=fun _ H Q=>Q true H
def zbY(wi:TI)(g:TG)(tt:TT)(te:TE)(n:Nat)(js:List Nat):TE:=fun σ H Q=>wi σ H fun J H1=>∀ D,H1 D=none->∃ W:Nat->Nat->List V->St->Hp->Prop,(∃ m,W 0 m [] (cst n js σ) (upd H1 D (.lst [])))/\∀ i m ys σ1 H2,W i m ys σ1 H2->
 (J.stop i H2/\Q (.ref D) H2)\/(J.go i H2/\∀ x H3,J.yld i H2 x H3->g x σ1 H3 fun σ4 H4=>tt σ4 H4 fun b H5=>if b=true then te σ4 H5 fun y H6=>H6 D=some (.lst ys)/\ys.length<sizeLine/\∃ m',m'<m/\W (i+1) m' (ys++[y]) σ4 (upd H6 D (.lst (ys++[y]))) else ∃ m',m'<m/\W (i+1) m' ys σ4 H5)
def PTs(X:Cx)(ifs:List Expr)(t:TT):Prop:=
 ∀ (pins:List (Addr×Obj)) (s:Shared) (σ : St) (H:Hp) (Q:Bool->Hp->Prop),Inv X pins σ H s->t σ H Q->
  wpAny (model X.prog X.w) X.A (forIn ifs true fun c r=>if r=true then do let ok <-isTrue c X.env (eval c X.env);pure (XS ok) else pure (XS r)) (TP X pins σ Q) X.xe s
theorem zaE:PTs X [] tTrue:=fun _ _ _ H _ I h=>wpAny_tests_nil ⟨H,I,h⟩
theorem zd8{c:Expr}(h:PT X c t):PTs X [c] t:=fun a s σ H Q I q=>wpAny_tests_one (h a s σ H Q I q)
theorem zeG{g:TG}(tn fn)(js)(hcalm:X.calm=true)(S:CompSc X.env.scope scope tn fn)(hj:js.map (fun j=>X.N[j]?)=fn.map some)(hi:PI X tg iter wi)
 (hb:∀ s H fp cl,PG (X.comp scope (tn++fn) s H fp cl) tg g/\PTs (X.comp scope (tn++fn) s H fp cl) ifs tt/\PE (X.comp scope (tn++fn) s H fp cl) elt te)
 (hs:∀ x,foldedSetIterable iter X.env x=pure x)     {Q:VK} (I:Inv X pins σ H s) (h:zbY wi g tt te tn.length js σ H Q)
 (fin:∀ (D C:Addr) (s6:Shared) (H5:Hp) (m6:Str->Option Value),s6.heap.Ns C m6->FpOk X pins H5 C->Inv X pins σ H5 s6->Q (.ref D) H5->compPost (model X.prog X.w) X.A X.xe use Qc (.ref D) C (.ok .next) s6) :
 wpAny (model X.prog X.w) X.A (comprehension (.ListComp elt [⟨tg,iter,ifs,0⟩] scope pos) scope X.env pos' (newList []) false (eval iter X.env) use) Qc X.xe s:=by
 refine Hd fun G U=>?_;obtain⟨cl,R,ap,hcl2⟩:=zlV (env:=X.env) (scope:=scope) (fun x hx e=>I.ok.has x.1 (S.free x hx e));apply U
 refine wpAny_comprehension_free (use:=use) rfl hs R S.kind S.loc (thn (hi pins s σ H _ I h) fun v s1 h1=>thn h1 fun itv s2 h2=>?_)
 refine Hd fun G U=>?_;obtain⟨it,fp,Z,J,H2,e,I2,T,aa,f2,k⟩:=h2;apply U;subst e;have hD:H2 s2.heap.objs.size=none:=I2.fresh;refine Hd fun G U=>?_;obtain⟨W,⟨m0,w0⟩,turn⟩:=k _ hD;apply U;refine wpAny_newObj_type ?_;have I3:=I2.lnew (t':=s2.toks) (ys:=[]) (its:=[]) .nil (Wby _);generalize an:({ s2 with heap:=s2.heap.push { cls:=.type "list", data:=.seq ([]:List Value).toArray } }:Shared)=l at I3
 have ae:l.heap.objs.size=s2.heap.objs.size+1:=by rw [<-an];exact Wba ..
 have au:∀ b o,s2.heap.get? b=some o->l.heap.get? b=some o:=fun b o e=>by rw [<-an];exact YaW _ e
 have am:∀ b∈fp,b<s2.heap.objs.size:=fun b hb=>by
  obtain⟨o,e,_⟩:=T.obj _ _ aa b hb;exact YaX e
 generalize b9:s2.heap.objs.size=D at *;have f3:∀ b∈fp,FpOk X pins (upd H2 D (.lst [])) b:=fun b hb=>⟨by rw [zc (Yaf (am b hb))];exact(f2 b hb).1,(f2 b hb).2⟩
 have P:∀ b∈fp,b<l.heap.objs.size:=fun b hb=>by rw [ae];exact WE (am b hb)
 have I4:=zlv I3 S hj f3 P ap hcl2;have ai:Z 0 (pushCells (l.heap.push { cls:=.type "dict", data:=.dict #[] }) scope.names):=T.keep _ _ _ aa fun b _ o e=>pushCells_keeps _ _ b o (YaW _ (au b o e))
 obtain⟨pg,pt,pe⟩:=hb l (upd H2 D (.lst [])) fp cl;generalize q:X.comp scope (tn++fn) l (upd H2 D (.lst [])) fp cl=Y at I4 pg pt pe;have Yp:Y.prog=X.prog:=by rw [<-q];rfl
 have Yw:Y.w=X.w:=by rw [<-q];rfl
 have YK:Y.K=X.K:=by rw [<-q];rfl
 have YA:Y.A=X.A:=by rw [<-q];rfl
 have Yc:Y.calm=true:=by rw [<-q];exact hcalm
 have F:Y.xe=fun _ _=>False:=by rw [<-q];rfl
 have K:Y.ex=fp:=by rw [<-q];rfl
 have aq:Y.fs=frs X.stack:=by rw [<-q];rfl
 have az:Y.pn=[]:=by rw [<-q];rfl
 have Ys:Y.s₀ = l:=by rw [<-q];rfl
 have YH:Y.H₀ = upd H2 D (.lst []):=by rw [<-q];rfl
 have YC:Y.env.locals=l.heap.objs.size:=by rw [<-q];rfl
 have ab:({ scope:=relabel scope X.env,locals:=l.heap.objs.size,globals:=X.env.globals,cells:=cellsFrom (l.heap.objs.size+1) scope.names cl,qual:=X.env.qual,func:=none,code:=X.env.code,frame:=X.env.frame,builtins:=X.env.builtins }:Env)=Y.env:=by rw [<-q];rfl
 have B:∀ {H':Hp},(∀ b∈fp,H' b=none)->∀ b∈fp,FpOk Y [] H' b:=fun hn b hb=>by
  refine⟨hn b hb,?_,?_,.inl (by rw [K];exact hb),fun x c e=>(I4.ok.exf b (by rw [K];exact hb)).2 x c e,fun p hp=>?_⟩
  . rw [YC];exact Yaf (P b hb)
  . exact I4.ok.exfs b (by rw [K];exact hb)
  . rw [az] at hp;exact absurd (show p∈([]:List (Addr×Obj)) from hp) (by simp)
 have L:codeAny (model X.prog X.w) X.A (.compLoop (.ListComp elt [⟨tg,iter,ifs,0⟩] scope pos) 0 (.ref it) (.ref D) Y.env) (compPost (model X.prog X.w) X.A X.xe use Qc (.ref D) l.heap.objs.size)
  { l with heap:=pushCells (l.heap.push { cls:=.type "dict", data:=.dict #[] }) scope.names }:=by
  refine codeAny_loop rfl (fun n s'=>∃ i ys E H',Inv Y [] E H' s'/\Z i s'.heap/\(∀ b∈fp,H' b=none)/\W i n ys E H') (fun n s5 hI=>?_) m0 ⟨0,[],_,_,I4,ai,fun b hb=>(f3 b hb).1,w0⟩
  refine Hd fun G U=>?_;obtain⟨i,ys,σ5,H5,I5,a3,ah,w5⟩:=hI;apply U;show wpAny _ X.A ((compTurn (.ListComp elt [⟨tg,iter,ifs,0⟩] scope pos) 0 (.ref it) (.ref D) Y.env).onRaise (fun x=>do noteFrame x Y.env;theTreesLotGoes x)) _ _ s5
  refine wpAny_noted ?_
  rw [compTurn_list];refine wpAny_bind (wpAny_standAt (wpAny_bind ?_))
  rcases turn i n ys σ5 H5 w5 with ⟨a4,qn⟩|⟨go,step⟩
  . have d:=T.done Y Yp Yw YK Yc i [] s5 σ5 H5 (fun _ _=>False) I5 (B ah) a3 a4
    rw [YA] at d;refine wpAny_mono d (fun r s6 ⟨hr,I6⟩=>?_) fun _ _ z=>z.elim
    subst hr;refine wpAny_pure ?_;obtain⟨m6,aj,_⟩:=I6.loc;rw [YC] at aj;have hC:H5 l.heap.objs.size=none:=by have:=I6.free;rwa [YC] at this
    have u6:=I6.base;rw [aq,K,YH,Ys] at u6;have a7:=I6.os;rw [Ys] at a7;have O:=I6.hok;rw [Yp,Yw] at O;have IX:Inv X pins σ H5 s6:=I3.call' (s':=s6) a7 u6 O I6.bare (fun b hb=>⟨(f3 b hb).2.2.2.1,(f3 b hb).2.1,(f3 b hb).2.2.2.2.1,(f3 b hb).2.2.2.2.2⟩)
    exact fin D l.heap.objs.size s6 H5 m6 aj (I3.fpOk (H':=H5) (YaY _) hC) IX qn
  . have d:=T.item Y Yp Yw YK Yc i [] s5 σ5 H5 (fun _ _=>False) I5 (B ah) a3 go
    rw [YA] at d;refine wpAny_mono d (fun r s6 ⟨u,hr,h6⟩=>?_) fun _ _ z=>z.elim
    subst hr;refine wpAny_bind (wpAny_mono h6 (fun _ s7 ⟨x,H7,I7,r7,y7,a1,aw⟩=>?_) fun _ _ z=>z.elim)
    have ar:=I7.pinned (B aw) (T.obj _ _ a1);have a8:=pg _ s7 σ5 H7 x u _ ar r7 (step x H7 y7);rw [YA,Yp,Yw,F] at a8;refine wpAny_bind (wpAny_mono a8 (fun _ s8 ⟨w,H8,I8,q8⟩=>?_) fun _ _ z=>z.elim)
    have a9:=pt _ s8 w H8 _ I8 q8;rw [YA,Yp,Yw,F] at a9;have again:∀ {H':Hp} {s':Shared} {a0:List V} {m':Nat},m'<n->Inv Y ([]++zbW fp s7.heap) w H' s'->W (i+1) m' a0 w H'->∃ m,m<n/\∃ i ys E H',Inv Y [] E H' s'/\Z i s'.heap/\(∀ b∈fp,H' b=none)/\W i m ys E H':=fun {H' s' a0 m'} hm I' w'=>by
     refine⟨m',hm,i+1,a0,w,H',I'.unpinned,T.keep _ _ _ a1 fun b hb o e=>(I'.pin (b,o) (Yaa _ (Yaa _ (zb9 hb e)))).1,fun b hb=>?_,w'⟩
     obtain⟨o,e,d⟩:=T.obj _ _ a1 b hb;exact(I'.pin (b,o) (Yaa _ (Yaa _ (zb9 hb e)))).2.1
    refine wpAny_bind (wpAny_mono a9 (fun ok s9 ⟨H9,I9,q9⟩=>?_) fun _ _ z=>z.elim)
    cases ok with
    | false=>
     obtain⟨m',hm,w9⟩:=q9;exact wpAny_pure ⟨rfl,again hm I9 w9⟩
    | true=>
     have a5:=pe _ s9 w H9 _ I9 q9;rw [YA,Yp,Yw,F] at a5;refine wpAny_bind (wpAny_bind (wpAny_mono a5 (fun y10 ay ⟨y,al,b4,b0,e10,hz,m',hm,w10⟩=>?_) fun _ _ z=>z.elim))
     have af:=zgj (X:=Y) _ ay w al (.ref D) [y] (.ref D) [y10] (fun _ H'=>H'=upd al D (.lst (ys++[y]))) b4 rfl (.cons b0 .nil) ⟨D,ys,y,rfl,rfl,e10,hz,rfl⟩
     rw [YA,Yp,Yw,F] at af;refine wpAny_bind (wpAny_mono af (fun _ b7 ⟨_,b8,b2,_,av⟩=>?_) fun _ _ z=>z.elim)
     subst av;exact wpAny_pure (wpAny_pure ⟨rfl,again hm b2 w10⟩)
 have ad:wpAny (model X.prog X.w) X.A (newFunctionEnv scope X.env.globals cl [] X.env.qual none .none (some X.env)) (fun M s₄=>
  codeAny (model X.prog X.w) X.A (.compStart (.ListComp elt [⟨tg,iter,ifs,0⟩] scope pos) 0 (.ref it) (.ref D) { M with scope:=relabel scope X.env }) (compPost (model X.prog X.w) X.A X.xe use Qc (.ref D) M.locals) s₄) X.xe l:=by
  simp only [newFunctionEnv,XG,if_true];refine wpAny_bind (wpAny_alloc ?_);refine wpAny_bind (wpAny_layCells _ (fun b5 kind cells=>by cases hkc:kind==YY<;>simp [hkc]) _ _ _ _ ?_)
  rw [List.forIn_nil];refine wpAny_bind (wpAny_pure (wpAny_pure ?_));rw [Wba ..];dsimp only;rw [ab];exact codeAny_compStart_list L (T.self _ 0 _ _ _ ai L)
 exact ad
theorem zaP{g:TG}(i c)(l)(a:X.calm=true)(S:CompSc X.env.scope scope i c)(A:l.map (fun j=>X.N[j]?)=c.map some)(u:PI X tg iter wi)
 (m:∀ s H fp cl,PG (X.comp scope (i++c) s H fp cl) tg g/\PTs (X.comp scope (i++c) s H fp cl) ifs tt/\PE (X.comp scope (i++c) s H fp cl) elt te)
 (z:∀ x,foldedSetIterable iter X.env x=pure x:=by intro _;rfl) :
 PE X (.ListComp elt [⟨tg,iter,ifs,0⟩] scope pos) (zbY wi g tt te i.length l):=by
 intro p s σ H Q I h;refine zeG i c l a S A u m z I h fun D C E r y n F v q=>⟨y,n,fun B w=>⟨.ref D,r,?_,rfl,q⟩⟩
 exact v.turnedL (ch:=[C]) (fun b o m e=>w.extBut b o (by simp_all) e) fun b m=>by
  simp_all
theorem zbv{g:TG}(hN:X.N.Nodup)(p:X.N[i]?=some x)(K:Loc X.env.scope x)(l m)(n)(c:X.calm=true)(S:CompSc X.env.scope scope l m)(Z:n.map (fun j=>X.N[j]?)=m.map some)(J:PI X tg iter wi)
 (u:∀ s H fp cl,PG (X.comp scope (l++m) s H fp cl) tg g/\PTs (X.comp scope (l++m) s H fp cl) ifs tt/\PE (X.comp scope (l++m) s H fp cl) elt te)
 (N:∀ x,foldedSetIterable iter X.env x=pure x:=by intro _;rfl)
 (y:swapsWith (.ListComp elt [⟨tg,iter,ifs,0⟩] scope pos) (some (.Name x pos')) spos.line X.env=pure true:=by rfl) (P:X.fn x=true\/X.env.scope.names.lookup x=some .local:=by first|exact .inl rfl|exact .inr rfl|assumption) :
 PS X (.Assign [.Name x pos'] (.ListComp elt [⟨tg,iter,ifs,0⟩] scope pos) spos) (tAsg (zbY wi g tt te l.length n) (zb7 i)):=by
 intro E s σ H D I h;rw [exec_Assign_Name_used _ _ _ _ y];refine wpAny_bind (wpAny_standAt (wpAny_bind ?_));refine wpAny_bind (wpAny_mono (zeG l m n c S Z J u N I h fun L C s6 Q Y w F R q=>?_) (fun _ s' O=>wpAny_pure (wpAny_pure O)) fun _ _ e=>e)
 refine wpAny_assign_Name (zff R hN p K (v:=.ref L) rfl (fun G U W=>?_) P)
 have T:∃ r,G.heap.Ns C r:=by
  obtain⟨a,B,M⟩:=W;refine⟨Y,w.sameBut B fun z=>?_⟩
  rcases M with e|e
  . exact F.2.1 (z.trans e)
  . exact F.2.2.2.2.1 x a e z.symm
 obtain⟨r,A⟩:=T;refine⟨r,A,fun h' B=>⟨_,Q,U.turnedL (ch:=[C]) (fun b o u e=>B.extBut b o (by simp_all) e) fun b u=>?_,q⟩⟩
 simp_all
theorem RdVs.length(h:RdVs K H xs ds):xs.length=ds.length:=by
 induction xs generalizing ds with
 | nil=>cases h;rfl
 | cons x xs c=>cases h with|cons a b=>grind
theorem RdVs.get(h:RdVs K H xs ds)(e:ds[i]?=some d):∃ x,xs[i]?=some x/\RdV K H x d:=by
 induction xs generalizing ds i with
 | nil=>cases h;simp at e
 | cons x xs c=>
  cases h with
  | cons a b=>
   cases i with
   | zero=>simp_all
   | succ i=>
    obtain⟨x,j,g⟩:=c b (by simpa using e)
    simp_all
theorem RdVs.append{es:List PyData}(h:RdVs K H xs ds)(h':RdVs K H ys es):RdVs K H (xs++ys) (ds++es):=by
 induction xs generalizing ds with
 | nil=>cases h;exact h'
 | cons x xs c=>cases h with|cons a b=>exact .cons a (c b)
theorem RdVs.set(h:RdV K H x d)(i)(r:RdVs K H xs ds):RdVs K H (xs.set i x) (ds.set i d):=by
 induction xs generalizing ds i with
 | nil=>cases r;exact .nil
 | cons y xs c=>
  cases r with
  | cons a b=>
   cases i with
   | zero=>exact .cons h b
   | succ i=>exact .cons a (c i b)
theorem RdVs.take(i)(r:RdVs K H xs ds):RdVs K H (xs.take i) (ds.take i):=by
 induction xs generalizing ds i with
 | nil=>cases r;rw [YZ,YZ];exact .nil
 | cons y xs c=>
  cases r with
  | cons a b=>
   cases i with
   | zero=>exact .nil
   | succ i=>exact .cons a (c i b)
theorem RdVs.drop(i)(r:RdVs K H xs ds):RdVs K H (xs.drop i) (ds.drop i):=by
 induction xs generalizing ds i with
 | nil=>cases r;rw [Y0,Y0];exact .nil
 | cons y xs c=>
  cases r with
  | cons a b=>
   cases i with
   | zero=>exact .cons a b
   | succ i=>exact c i b
noncomputable def tab0(P:Addr):HO:=.ext fun h=>h.get? P=some (Ye #[])
noncomputable def tabA(P c':Addr)(pos:Pos):HO:=.ext fun h=>∃ ps,h.get? P=some (Ye ps)/\TriplesOk ps.toList/\codeAmong pos ps.toList=some (.ref c')
noncomputable def Jc(c':Addr)(q:Str):HO:=.ext fun h=>h.CodeRec (.ref c') q
class LamW where
 pos:Pos
 q:Str
def Lk[LamW](P:Addr)(H:Hp):Prop:=∃ c',H P=some (tabA P c' LamW.pos)/\H c'=some (Jc c' LamW.q)
variable[LamW]
def zh(H H':Hp):Prop:=∀ b o,H b=some o->H' b=some o\/(o=tab0 b/\((∀ C,tab0 b≠excO b C)/\∀ q,tab0 b≠Jc b q)/\Lk b H')
theorem Same.x{H H':Hp}(s:Same H H'):zh H H':=fun b o h=>.inl (s b o h)
theorem zh.refl(H:Hp):zh H H:=(Same.refl H).x
theorem zh.free{H H':Hp}(e:zh H H'){l:Addr}(h:H' l=none):H l=none:=by
 cases q:H l with
 | none=>rfl
 | some o=>
  rcases e l o q with z|⟨_,_,a,z,_⟩
  . grind
  grind
theorem zh.at{H H':Hp}(e:zh H H'){b:Addr}{o:HO}(h:H b=some o)(n:∀ f,o≠.ext f:=by intro f z;cases z):H' b=some o:=by
 rcases e b o h with z|⟨z,_⟩
 . exact z
 . exact absurd z (n _)
theorem zh.exc{H H':Hp}(e:zh H H'){a C:Addr}(h:H a=some (excO a C)):H' a=some (excO a C):=by
 rcases e a _ h with z|⟨z,n,_⟩
 . exact z
 grind
theorem zh.code{H H':Hp}(e:zh H H'){a:Addr}{q:Str}(h:H a=some (Jc a q)):H' a=some (Jc a q):=by
 rcases e a _ h with z|⟨z,n,_⟩
 . exact z
 grind
theorem Lk.same{P:Addr}{H H':Hp}(l:Lk P H)(e:zh H H'):Lk P H':=by
 obtain⟨a,b,c⟩:=l
 rcases e P _ b with z|⟨_,_,z⟩
 . exact⟨a,z,e.code c⟩
 . exact z
theorem zh.trans{H H1 H2:Hp}(a:zh H H1)(b:zh H1 H2):zh H H2:=fun c o h=>by
 rcases a c o h with z|⟨e,n,l⟩
 . exact b c o z
 . exact .inr ⟨e,n,l.same b⟩
def TabU(P:Addr)(H:Hp):Prop:=H P=some (tab0 P)\/Lk P H
theorem TabU.same{P:Addr}{H H':Hp}(t:TabU P H)(e:zh H H'):TabU P H':=by
 rcases t with h|h
 . rcases e P _ h with z|⟨_,_,l⟩
   . exact .inl z
   . exact .inr l
 . exact .inr (h.same e)
structure Sub(G H:Hp):Prop where
 s:Same G H
 cl:∀ a f,G a≠some (.ext f)
theorem Sub.free{G H:Hp}(e:Sub G H){l:Addr}(h:H l=none):G l=none:=e.s.free h
theorem Sub.seq{K:Ybf}{G H:Hp}{a:Addr}{xs:List V}(e:Sub G H)(h:SqL K G a xs):SqL K H a xs:=e.s.seq h
theorem Sub.tup{K:Ybf}{G H:Hp}{a:Addr}{xs:List V}(e:Sub G H)(h:SqT K G a xs):SqT K H a xs:=e.s.tup h
theorem Sub.trans{G H H':Hp}(e:Sub G H)(x:zh H H'):Sub G H':=⟨fun b o h=>x.at (e.s b o h) (fun f z=>by rw [z] at h;exact e.cl b f h),e.cl⟩
theorem Lk.upd{b D:Addr}{H:Hp}{o:HO}(l:Lk b H)(h:b≠D)(c:∀ f,H D≠some (.ext f)):Lk b (upd H D o):=by
 obtain⟨e,g,a⟩:=l;exact⟨e,by rw [zc h];exact g,by rw [zc (fun y=>by rw [y] at a;exact c _ a)];exact a⟩
theorem zh.chg{H0 H:Hp}{l:Addr}{o us:HO}(s:zh H0 H)(i:H0 l=none)(h:H l=some us)(c:∀ f,us≠.ext f):zh H0 (upd H l o):=fun b u e=>by
 have g:=je e i
 rcases s b u e with z|⟨z,n,j,m,a⟩
 . exact .inl (by rw [zc g];exact z)
 . refine .inr ⟨z,n,j,by rw [zc g];exact m,?_⟩
   rw [zc (fun y=>by rw [y,h] at a;exact c _ (Wa3 a))];exact a
theorem zh.seq{K:Ybf}{H H':Hp}{a:Addr}{xs:List V}(e:zh H H')(h:SqL K H a xs):SqL K H' a xs:=by
 rcases h with (h|⟨o,h⟩)|h
 . exact .inl (.inl (e.at h))
 . exact .inl (.inr ⟨o,e.at h⟩)
 . exact .inr h
theorem zh.tup{K:Ybf}{H H':Hp}{a:Addr}{xs:List V}(e:zh H H')(h:SqT K H a xs):SqT K H' a xs:=by
 rcases h with (h|⟨o,h⟩)|h
 . exact .inl (.inl (e.at h))
 . exact .inl (.inr ⟨o,e.at h⟩)
 . exact .inr h
noncomputable def cln(H:Hp):Hp:=fun a=>match H a with
 | some (.ext _)=>none
 | o=>o
theorem zb2{o:HO}(h:H a=some o)(n:∀ f,o≠.ext f:=by intro f z;cases z):cln H a=some o:=by
 unfold cln;rw [h];cases o<;>first|rfl|grind
theorem zgP(H):Sub (cln H) H:=by
 refine⟨fun b o h=>?_,fun a f h=>?_⟩
 . unfold cln at h
   cases e:H b with
   | none=>simp_all
   | some u=>rw [e] at h;cases u<;>first|exact h|cases h
 . unfold cln at h
   cases e:H a with
   | none=>simp_all
   | some u=>rw [e] at h;cases u<;>cases h
end L2
namespace L3
open PySem PySem.Spec PyProof.Rows L2
variable[LamW]
abbrev D:=PyData
noncomputable def keyD:Key->D
 | .inl i=>.int i
 | .inr x=>.str x
set_option genInjectivity true
inductive Cl where
 | sh (f:Bool) (d:D)
 | ow (f:Bool) (ds:List D)
 | tr (ps:List Addr) (ms:List (List D))
 | dt (ds:List (List Key×D))
 | dk (ks:List Int)
 | fd (ds:List (List Key×D))
 | tk (k:List Key)
 | dm (a:Addr) (ds:List (Int×Int))
 | ex (C:Addr)
set_option genInjectivity false
noncomputable def Cl.d:Cl->D
 | .sh _ d=>d
 | .ow _ ds=>.list ds
 | .tr _ _=>.none
 | .dt _=>.none
 | .dk _=>.none
 | .fd _=>.none
 | .tk k=>.tuple (k.map keyD)
 | .dm _ _=>.none
 | .ex _=>.none
noncomputable def Cl.f:Cl->Bool
 | .sh f _=>f
 | .ow f _=>f
 | .tr _ _=>false
 | .dt _=>false
 | .dk _=>false
 | .fd _=>false
 | .tk _=>true
 | .dm _ _=>false
 | .ex _=>false
noncomputable def zt:D->Bool
 | .int _=>true|.bool _=>true|.str _=>true|.none=>true|_=>false
abbrev Env3:=List (Option Cl)
structure Gr(G H G' H':Hp):Prop where
 g:Same G G'
 h:zh H H'
 sub:Sub G' H'
 new:∀ b o,G' b=some o->G b=some o\/H b=none\/∃ xs,o=.tup xs
theorem Gr.refl{G H:Hp}(s:Sub G H):Gr G H G H:=⟨Same.refl _,zh.refl _,s,fun _ _ e=>.inl e⟩
theorem Gr.trans{G H G1 H1 G2 H2:Hp}(a:Gr G H G1 H1)(b:Gr G1 H1 G2 H2):Gr G H G2 H2:=
 ⟨a.g.trans b.g,a.h.trans b.h,b.sub,fun c o e=>by
  rcases b.new c o e with q|q|q
  . exact a.new c o q
  . exact .inr (.inl (a.h.free q))
  simp_all⟩
theorem Gr.put{G H:Hp}{p:Addr}{o:HO}(s:Sub G H)(c:H p=none)(g:∀ f,o≠.ext f:=by intro f z;cases z):Gr G H (upd G p o) (upd H p o):=
 ⟨zx (s.free c) o,(zx c o).x,⟨fun b u e=>by
  by_cases a:b=p
  . subst a;rw [zf] at e ⊢;exact e
  . rw [zc a] at e ⊢;exact s.s b u e,fun b f e=>by
  by_cases a:b=p
  . subst a;rw [zf] at e;grind
  . rw [zc a] at e;exact s.cl b f e⟩,fun b u e=>by
  by_cases a:b=p
  . lia
  . rw [zc a] at e;lia⟩
theorem Gr.apart{G H:Hp}{p:Addr}{o:HO}(s:Sub G H)(a:H p=none):Gr G H G (upd H p o):=
 ⟨Same.refl _,(zx a o).x,s.trans (zx a o).x,fun _ _ e=>.inl e⟩
theorem zal{K:Ybf}{H H':Hp}(e:Same H H'):∀ {x:V} {d:D},RdV K H x d->RdV K H' x d:=fun h=>RdV.rec (motive_1:=fun x d _=>RdV K H' x d) (motive_2:=fun x d _=>RdVs K H' x d) .non .bl .int .str (fun q _ r=>.lst (e.seq q) r) (fun q _ r=>.tup (e.tup q) r) .nil (fun _ _ a b=>.cons a b) h
theorem rdvs_same{K:Ybf}{H H':Hp}(e:Same H H'):∀ {xs:List V} {ds:List D},RdVs K H xs ds->RdVs K H' xs ds:=fun h=>RdVs.rec (motive_1:=fun x d _=>RdV K H' x d) (motive_2:=fun x d _=>RdVs K H' x d) .non .bl .int .str (fun q _ r=>.lst (e.seq q) r) (fun q _ r=>.tup (e.tup q) r) .nil (fun _ _ a b=>.cons a b) h
theorem zm3(h:SqL K H a xs):SqL K (cln H) a xs:=by
 rcases h with (h|⟨o,h⟩)|h
 . exact .inl (.inl (zb2 h))
 . exact .inl (.inr ⟨o,zb2 h⟩)
 . exact .inr h
theorem zmy(h:SqT K H a xs):SqT K (cln H) a xs:=by
 rcases h with (h|⟨o,h⟩)|h
 . exact .inl (.inl (zb2 h))
 . exact .inl (.inr ⟨o,zb2 h⟩)
 . exact .inr h
theorem rdvs_cln{K:Ybf}{H:Hp}:∀ {xs:List V} {ds:List D},RdVs K H xs ds->RdVs K (cln H) xs ds:=fun h=>RdVs.rec (motive_1:=fun x d _=>RdV K (cln H) x d) (motive_2:=fun x d _=>RdVs K (cln H) x d) .non .bl .int .str (fun q _ r=>.lst (zm3 q) r) (fun q _ r=>.tup (zmy q) r) .nil (fun _ _ a b=>.cons a b) h
mutual
inductive RdN(K:Ybf)(H0 G:Hp):V->D->Prop
 | non:RdN K H0 G .non .none
 | bl (b:_):RdN K H0 G (.bl b) (.bool b)
 | int (i:_):RdN K H0 G (.int i) (.int i)
 | str (x:_):RdN K H0 G (.str x) (.str x)
 | lst {a xs ds:_}:G a=some (.lst xs)->H0 a=none->RdNs K H0 G xs ds->RdN K H0 G (.ref a) (.list ds)
 | tup {a xs ds:_}:G a=some (.tup xs)->RdNs K H0 G xs ds->RdN K H0 G (.ref a) (.tuple ds)
inductive RdNs(K:Ybf)(H0 G:Hp):List V->List D->Prop
 | nil:RdNs K H0 G [] []
 | cons {x xs d ds:_}:RdN K H0 G x d->RdNs K H0 G xs ds->RdNs K H0 G (x::xs) (d::ds)
end
theorem zcR{K:Ybf}{H0 G:Hp}:∀ {x:V} {d:D},RdN K H0 G x d->RdV K G x d:=fun h=>RdN.rec (motive_1:=fun x d _=>RdV K G x d) (motive_2:=fun x d _=>RdVs K G x d) .non .bl .int .str (fun q _ _ r=>.lst (SqL.of q) r) (fun q _ r=>.tup (SqT.of q) r) .nil (fun _ _ a b=>.cons a b) h
theorem rdns_rd{K:Ybf}{H0 G:Hp}:∀ {xs:List V} {ds:List D},RdNs K H0 G xs ds->RdVs K G xs ds:=fun h=>RdNs.rec (motive_1:=fun x d _=>RdV K G x d) (motive_2:=fun x d _=>RdVs K G x d) .non .bl .int .str (fun q _ _ r=>.lst (SqL.of q) r) (fun q _ r=>.tup (SqT.of q) r) .nil (fun _ _ a b=>.cons a b) h
theorem jV{K:Ybf}{H0 H1 G G':Hp}(e:Same G G')(h:∀ a o,G a=some o->H0 a=none->H1 a=none):∀ {x:V} {d:D},RdN K H0 G x d->RdN K H1 G' x d:=fun z=>RdN.rec (motive_1:=fun x d _=>RdN K H1 G' x d) (motive_2:=fun x d _=>RdNs K H1 G' x d) .non .bl .int .str (fun q n _ r=>.lst (e _ _ q) (h _ _ q n) r) (fun q _ r=>.tup (e _ _ q) r) .nil (fun _ _ a b=>.cons a b) z
theorem rdns_mono{K:Ybf}{H0 H1 G G':Hp}(e:Same G G')(h:∀ a o,G a=some o->H0 a=none->H1 a=none):∀ {xs:List V} {ds:List D},RdNs K H0 G xs ds->RdNs K H1 G' xs ds:=fun z=>RdNs.rec (motive_1:=fun x d _=>RdN K H1 G' x d) (motive_2:=fun x d _=>RdNs K H1 G' x d) .non .bl .int .str (fun q n _ r=>.lst (e _ _ q) (h _ _ q n) r) (fun q _ r=>.tup (e _ _ q) r) .nil (fun _ _ a b=>.cons a b) z
theorem za0(h:zt d=true)(r:RdV K G v d):RdN K H0 G v d:=by
 cases r with
 | non=>exact .non
 | bl b=>exact .bl b
 | int i=>exact .int i
 | str s=>exact .str s
 | lst _ _=>cases h
 | tup _ _=>cases h
structure Rf(K:Ybf)(H0 G:Hp)(f:Bool)(v:V)(d:D):Prop where
 rd:RdV K G v d
 nw:f=true->RdN K H0 G v d
structure Rfs(K:Ybf)(H0 G:Hp)(f:Bool)(v:List V)(d:List D):Prop where
 rd:RdVs K G v d
 nw:f=true->RdNs K H0 G v d
theorem Rf.same(r:Rf K H0 G f v d)(e:Same G G'):Rf K H0 G' f v d:=⟨zal e r.rd,fun h=>jV e (fun _ _ _ n=>n) (r.nw h)⟩
theorem Rfs.same{v:List V}(r:Rfs K H0 G f v d)(e:Same G G'):Rfs K H0 G' f v d:=⟨rdvs_same e r.rd,fun h=>rdns_mono e (fun _ _ _ n=>n) (r.nw h)⟩
theorem Rf.sc(h:zt d=true)(r:RdV K G v d):Rf K H0 G f v d:=⟨r,fun _=>za0 h r⟩
theorem Rf.or(r:Rf K H0 G f v d):Rf K H0 G (f||zt d) v d:=⟨r.rd,fun h=>by
 cases f with
 | true=>exact r.nw rfl
 | false=>exact za0 (by grind) r.rd⟩
theorem Rfs.nil{K:Ybf}{H0 G:Hp}{f:Bool}:Rfs K H0 G f [] []:=⟨.nil,fun _=>.nil⟩
theorem Rfs.cons{K:Ybf}{H0 G:Hp}{f g:Bool}{v:V}{d:D}{vs:List V}{ds:List D}(r:Rf K H0 G f v d)(a:Rfs K H0 G g vs ds):Rfs K H0 G (f&&g) (v::vs) (d::ds):=⟨.cons r.rd a.rd,fun h=>by
 rw [Yak] at h;exact .cons (r.nw h.1) (a.nw h.2)⟩
theorem zkf{ds:List D}(r:RdNs K H0 H xs ds)(e:xs[i]?=some x)(g:ds[i]?=some d):RdN K H0 H x d:=by
 induction xs generalizing ds i with
 | nil=>simp at e
 | cons y xs c=>
  cases r with
  | cons a b=>
   cases i with
   | zero=>simp_all
   | succ i=>exact c b (by simpa using e) (by simp_all)
theorem Rfs.get{K:Ybf}{H0 G:Hp}{f:Bool}{vs:List V}{ds:List D}{i:Nat}{d:D}(r:Rfs K H0 G f vs ds)(h:ds[i]?=some d):∃ v,vs[i]?=some v/\Rf K H0 G f v d:=by
 obtain⟨v,a,c⟩:=r.rd.get h;exact⟨v,a,c,fun b=>zkf (r.nw b) a h⟩
theorem zgC{ds:List D}(h:ds.all zt=true)(r:RdVs K G vs ds):RdNs K H0 G vs ds:=by
 induction vs generalizing ds with
 | nil=>cases r;exact .nil
 | cons v vs c=>
  cases r with
  | cons a b=>
   rw [XH,Yak] at h;exact .cons (za0 h.1 a) (c h.2 b)
theorem Rfs.or{ds:List D}(r:Rfs K H0 G f vs ds):Rfs K H0 G (f||ds.all zt) vs ds:=⟨r.rd,fun h=>by
 cases f with
 | true=>exact r.nw rfl
 | false=>exact zgC (by grind) r.rd⟩
theorem za6(ws:List Int):(ws.map Xa).all zt=true:=by
 rw [List.all_map];exact WaX.mpr fun _ _=>rfl
theorem Rfs.length{K:Ybf}{H0 G:Hp}{f:Bool}{vs:List V}{ds:List D}(r:Rfs K H0 G f vs ds):vs.length=ds.length:=r.rd.length
theorem zct{ds es:List D}(h:RdNs K H0 H xs ds)(h':RdNs K H0 H ys es):RdNs K H0 H (xs++ys) (ds++es):=by
 induction xs generalizing ds with
 | nil=>cases h;exact h'
 | cons x xs c=>cases h with|cons a b=>exact .cons a (c b)
theorem znn(h:RdN K H0 H x d){ds:List D}(i)(r:RdNs K H0 H xs ds):RdNs K H0 H (xs.set i x) (ds.set i d):=by
 induction xs generalizing ds i with
 | nil=>cases r;exact .nil
 | cons y xs c=>
  cases r with
  | cons a b=>
   cases i with
   | zero=>exact .cons h b
   | succ i=>exact .cons a (c i b)
theorem zlx{ds:List D}(i)(r:RdNs K H0 H xs ds):RdNs K H0 H (xs.take i) (ds.take i):=by
 induction xs generalizing ds i with
 | nil=>cases r;rw [YZ,YZ];exact .nil
 | cons y xs c=>
  cases r with
  | cons a b=>
   cases i with
   | zero=>exact .nil
   | succ i=>exact .cons a (c i b)
theorem znD{ds:List D}(i)(r:RdNs K H0 H xs ds):RdNs K H0 H (xs.drop i) (ds.drop i):=by
 induction xs generalizing ds i with
 | nil=>cases r;rw [Y0,Y0];exact .nil
 | cons y xs c=>
  cases r with
  | cons a b=>
   cases i with
   | zero=>exact .cons a b
   | succ i=>exact c i b
theorem Rfs.snoc{ds:List D}(a:Rfs K H0 G g vs ds)(r:Rf K H0 G f v d):Rfs K H0 G (g&&f) (vs++[v]) (ds++[d]):=⟨a.rd.append (.cons r.rd .nil),fun h=>by
 rw [Yak] at h;exact zct (a.nw h.1) (.cons (r.nw h.2) .nil)⟩
theorem Rfs.append{K:Ybf}{H0 G:Hp}{f g:Bool}{us:List V}{es:List D}{vs:List V}{ds:List D}(a:Rfs K H0 G g vs ds)(r:Rfs K H0 G f us es):Rfs K H0 G (g&&f) (vs++us) (ds++es):=⟨a.rd.append r.rd,fun h=>by
 rw [Yak] at h;exact zct (a.nw h.1) (r.nw h.2)⟩
theorem Rfs.set{K:Ybf}{H0 G:Hp}{f g:Bool}{v:V}{d:D}{vs:List V}{ds:List D}(a:Rfs K H0 G g vs ds)(r:Rf K H0 G f v d)(i:Nat):Rfs K H0 G (g&&f) (vs.set i v) (ds.set i d):=⟨a.rd.set r.rd i,fun h=>by
 rw [Yak] at h;exact znn (r.nw h.2) i (a.nw h.1)⟩
theorem Rfs.take{K:Ybf}{H0 G:Hp}{g:Bool}{vs:List V}{ds:List D}(a:Rfs K H0 G g vs ds)(i:Nat):Rfs K H0 G g (vs.take i) (ds.take i):=⟨a.rd.take i,fun h=>zlx i (a.nw h)⟩
theorem Rfs.drop{K:Ybf}{H0 G:Hp}{g:Bool}{vs:List V}{ds:List D}(a:Rfs K H0 G g vs ds)(i:Nat):Rfs K H0 G g (vs.drop i) (ds.drop i):=⟨a.rd.drop i,fun h=>znD i (a.nw h)⟩
structure Tr(K:Ybf)(H0 G H:Hp)(l:Addr)(ps:List Addr)(ms:List (List D)):Prop where
 top:H l=some (.lst (ps.map V.ref))
 topG:G l=none
 nd:(l::ps).Nodup
 len:ps.length=ms.length
 item:∀ (k:Nat) (p:Addr) (m:List D),ps[k]?=some p->ms[k]?=some m->∃ vs,H p=some (.lst vs)/\G p=none/\Rfs K H0 G true vs m
inductive Dr(K:Ybf)(H0 G:Hp):List (List Key×V)->List (List Key×D)->Prop
 | nil:Dr K H0 G [] []
 | cons {k v d kvs ds:_}:Rf K H0 G true v d->Dr K H0 G kvs ds->Dr K H0 G ((k,v)::kvs) ((k,d)::ds)
theorem Dr.same{K:Ybf}{H0 G G':Hp}{kvs:List (List Key×V)}{ds:List (List Key×D)}(r:Dr K H0 G kvs ds)(e:Same G G'):Dr K H0 G' kvs ds:=by
 induction r with
 | nil=>exact .nil
 | cons a b c=>exact .cons (a.same e) c
def KAt(G:Hp)(o:Obj)(kvs:List (List Key×V)):Prop:=∃ (es:Array DictEntry) (ep:Nat) (as:List Addr),o.ExactDict/\o.data=.dict es ep/\es.toList.map (·.key)=as.map Xs/\as.length=kvs.length/\∀ (j:Nat) (a:Addr) (k:List Key) (v:V),as[j]?=some a->kvs[j]?=some (k,v)->G a=some (.tup (k.map kV))
theorem KAt.same(h:KAt G o kvs)(g:Same G G'):KAt G' o kvs:=by
 obtain⟨r,p,b,n,q,m,i,l⟩:=h;exact⟨r,p,b,n,q,m,i,fun j a k v e c=>g _ _ (l j a k v e c)⟩
noncomputable def encM(ds:List (Int×Int)):List (Key×V):=ds.map fun p=>(Xn p.1,V.int p.2)
inductive Vw(K:Ybf)(H0 G H:Hp):V->Cl->Prop
 | sh {v f d:_}:Rf K H0 G f v d->Vw K H0 G H v (.sh f d)
 | ow {l vs f ds:_}:H l=some (.lst vs)->Rfs K H0 G f vs ds->G l=none->Vw K H0 G H (.ref l) (.ow f ds)
 | tr {l ps ms:_}:Tr K H0 G H l ps ms->Vw K H0 G H (.ref l) (.tr ps ms)
 | dt {l kvs ds:_}:H l=some (.dT kvs)->Dr K H0 G kvs ds->G l=none->Vw K H0 G H (.ref l) (.dt ds)
 | dk {l ks:_}:H l=some (.dK (ks.map fun k=>(Xn k,V.bl true)))->G l=none->Vw K H0 G H (.ref l) (.dk ks)
 | fd {l o kvs ds:_}:G l=some (.frz o (.dT kvs))->Dr K H0 G kvs ds->KAt G o kvs->Vw K H0 G H (.ref l) (.fd ds)
 | tk {b k:_}:G b=some (.tup (k.map kV))->Vw K H0 G H (.ref b) (.tk k)
 | dm {a ds:_}:H a=some (.dK (encM ds))->G a=none->Vw K H0 G H (.ref a) (.dm a ds)
 | ex {l C:_}:H l=some (excO l C)->Vw K H0 G H (.ref l) (.ex C)
noncomputable def Cl.dat:Cl->Bool
 | .ex _=>false
 | .tr _ _=>false
 | .dt _=>false
 | .dk _=>false
 | .fd _=>false
 | .dm _ _=>false
 | _=>true
def Has:Cl->V->Addr->Prop
 | .ow _ _,v,a=>v=.ref a
 | .tr ps _,v,a=>v=.ref a\/a∈ps
 | .dt _,v,a=>v=.ref a
 | .dk _,v,a=>v=.ref a
 | .dm _ _,v,a=>v=.ref a
 | _,_,_=>False
theorem Tr.at(t:Tr K H0 G H l ps ms){p:Addr}(h:p∈ps):∃ m vs,H p=some (.lst vs)/\G p=none/\Rfs K H0 G true vs m:=by
 obtain⟨k,b,e⟩:=Yam h;have a:k<ms.length:=by rw [<-t.len];exact b
 obtain⟨vs,c⟩:=t.item k p ms[k] (by simp_all) (YaQ a)
 exact⟨_,vs,c⟩
theorem Vw.has{c:Cl}(w:Vw K H0 G H v c)(h:Has c v a):(∃ o,H a=some o/\∀ f,o≠.ext f)/\G a=none:=by
 cases w with
 | sh r=>exact Xj h
 | ex e=>exact Xj h
 | fd _ _ _=>exact Xj h
 | tk _=>exact Xj h
 | ow e r n=>cases h;grind
 | dt e r n=>cases h;grind
 | dk e n=>cases h;grind
 | dm e n=>cases h;grind
 | tr t=>
  rcases h with h|h
  . cases h;exact⟨⟨_,t.top,fun C z=>by cases z⟩,t.topG⟩
  . obtain⟨m,g,i,b,_⟩:=t.at h
    grind
theorem Vw.turn{c:Cl}(w:Vw K H0 G H v c)(g:Same G G')(q:∀ a C,H a=some (excO a C)->H' a=some (excO a C))(i:∀ a,Has c v a->H' a=H a/\G' a=G a):Vw K H0 G' H' v c:=by
 cases w with
 | sh r=>exact .sh (r.same g)
 | ex h=>exact .ex (q _ _ h)
 | fd h r k=>exact .fd (g _ _ h) (r.same g) (k.same g)
 | tk h=>exact .tk (g _ _ h)
 | ow h r n=>
  obtain⟨b,e⟩:=i _ rfl;exact .ow (b.trans h) (r.same g) (e.trans n)
 | dt h r n=>
  obtain⟨b,e⟩:=i _ rfl;exact .dt (b.trans h) (r.same g) (e.trans n)
 | dk h n=>
  obtain⟨b,e⟩:=i _ rfl;exact .dk (b.trans h) (e.trans n)
 | dm h n=>
  obtain⟨b,e⟩:=i _ rfl;exact .dm (b.trans h) (e.trans n)
 | tr t=>
  obtain⟨b,e⟩:=i _ (.inl rfl);refine .tr ⟨b.trans t.top,e.trans t.topG,t.nd,t.len,fun k p m j o=>?_⟩
  obtain⟨u,y,s,l⟩:=t.item k p m j o;obtain⟨z,A⟩:=i p (.inr (Yah j));exact⟨u,z.trans y,A.trans s,l.same g⟩
theorem Vw.ntup{c:Cl}(w:Vw K H0 G H v c)(h:Has c v a):∀ xs,H a≠some (.tup xs):=by
 cases w with
 | sh r=>exact Xj h
 | ex e=>exact Xj h
 | fd _ _ _=>exact Xj h
 | tk _=>exact Xj h
 | ow e r n=>cases h;simp_all
 | dt e r n=>cases h;simp_all
 | dk e n=>cases h;simp_all
 | dm e n=>cases h;simp_all
 | tr t=>
  rcases h with h|h
  . cases h;intro xs z;rw [t.top] at z;cases z
  . obtain⟨m,g,i,b,_⟩:=t.at h
    simp_all
theorem Gr.hid{G H G' H':Hp}(g:Gr G H G' H'){l:Addr}{o:HO}(h:H l=some o)(n:G l=none)(a:∀ f,o≠.ext f)(b:∀ xs,H l≠some (.tup xs)):G' l=none:=by
 cases e:G' l with
 | none=>rfl
 | some o=>
  rcases g.new _ _ e with q|q|⟨xs,q⟩
  . grind
  . grind
  . have:=g.sub.s _ _ e
    rw [g.h.at h a] at this
    simp_all
theorem Vw.gr{K:Ybf}{H0 G H G' H':Hp}{v:V}{c:Cl}(w:Vw K H0 G H v c)(g:Gr G H G' H'):Vw K H0 G' H' v c:=
 w.turn g.g (fun a C e=>g.h.exc e) fun a h=>by
  obtain⟨⟨o,e,b⟩,n⟩:=w.has h;exact⟨(g.h.at e b).trans e.symm,(g.hid e n b (w.ntup h)).trans n.symm⟩
theorem zas{K:Ybf}{G:Hp}:∀ k:List Key,RdVs K G (k.map kV) (k.map keyD)
 | []=>.nil
 | .inl i::r=>.cons (.int i) (zas r)
 | .inr x::r=>.cons (.str x) (zas r)
theorem zbj{K:Ybf}{H0 G:Hp}:∀ k:List Key,RdNs K H0 G (k.map kV) (k.map keyD)
 | []=>.nil
 | .inl i::r=>.cons (.int i) (zbj r)
 | .inr x::r=>.cons (.str x) (zbj r)
theorem Vw.rd{K:Ybf}{H0 G H:Hp}{v:V}{c:Cl}(w:Vw K H0 G H v c)(s:Sub G H)(a:c.dat=true):RdV K H v c.d:=by
 cases w with
 | sh r=>exact zal s.s r.rd
 | ow h r n=>exact .lst (SqL.of h) (rdvs_same s.s r.rd)
 | tr t=>cases a
 | dt _ _ _=>cases a
 | dk _ _=>cases a
 | fd _ _ _=>cases a
 | tk h=>exact .tup (SqT.of (s.s _ _ h)) (zas _)
 | dm _ _=>cases a
 | ex h=>cases a
inductive Vws(K:Ybf)(H0 G H:Hp):List V->List Cl->Prop
 | nil:Vws K H0 G H [] []
 | cons {v c vs cs:_}:Vw K H0 G H v c->Vws K H0 G H vs cs->Vws K H0 G H (v::vs) (c::cs)
noncomputable def shs:List Cl->Option (Bool×List D)
 | []=>some (true,[])
 | .sh f d::r=>(shs r).map fun p=>((f&&p.1),d::p.2)
 | .ow _ _::_=>none
 | .tr _ _::_=>none
 | .dt _::_=>none
 | .dk _::_=>none
 | .fd _::_=>none
 | .tk _::_=>none
 | .dm _ _::_=>none
 | .ex _::_=>none
theorem Vws.shs{K:Ybf}{H0 G H:Hp}{vs:List V}{cs:List Cl}{p:Bool×List D}(h:Vws K H0 G H vs cs)(e:shs cs=some p):Rfs K H0 G p.1 vs p.2:=by
 induction h generalizing p with
 | nil=>cases e;exact .nil
 | cons a b g=>
  cases a with
  | sh r=>
   unfold L3.shs at e;rename_i c f d;cases q:L3.shs c with
   | none=>simp_all
   | some i=>rw [q] at e;cases e;exact .cons r (g q)
  | ow _ _ _=>cases e
  | tr _=>cases e
  | dt _ _ _=>cases e
  | dk _ _=>cases e
  | fd _ _ _=>cases e
  | tk _=>cases e
  | dm _ _=>cases e
  | ex _=>cases e
theorem Vws.rds(s:Sub G H)(h:Vws K H0 G H vs cs)(c:cs.all Cl.dat=true):RdVs K H vs (cs.map Cl.d):=by
 induction h with
 | nil=>exact .nil
 | cons a b e=>
  rw [XH,Yak] at c;exact .cons (a.rd s c.1) (e c.2)
structure Fr3(K:Ybf)(H0 G0:Hp)(ρ : Env3)(σ : L2.St)(G H:Hp):Prop where
 keep:zh H0 H
 sub:Sub G H
 old:∀ b o,G b=some o->G0 b=some o\/H0 b=none\/∃ xs,o=.tup xs
 g0:Same G0 G
 slot:∀ (i:Nat) (c:Cl),ρ[i]?=some (some c)->∃ v,σ[i]?=some (some v)/\Vw K H0 G H v c
 mine:∀ (i:Nat) (c:Cl) (v:V) (a:Addr),ρ[i]?=some (some c)->σ[i]?=some (some v)->Has c v a->H0 a=none
 apart:∀ (i j:Nat) (c c':Cl) (v v':V) (a:Addr),ρ[i]?=some (some c)->ρ[j]?=some (some c')->σ[i]?=some (some v)->σ[j]?=some (some v')->Has c v a->Has c' v' a->i=j
 len:ρ.length = σ.length
section
variable{ρ: Env3}
theorem Fr3.gr(F:Fr3 K H0 G0 ρ σ G H)(g:Gr G H G' H'):Fr3 K H0 G0 ρ σ G' H' where
 keep:=F.keep.trans g.h
 sub:=g.sub
 old:=fun b o e=>by
  rcases g.new b o e with q|q|q
  . exact F.old b o q
  . exact .inr (.inl (F.keep.free q))
  simp_all
 g0:=F.g0.trans g.g
 slot:=fun i c e=>by
  obtain⟨v,h,a⟩:=F.slot i c e;exact⟨v,h,a.gr g⟩
 mine:=F.mine
 apart:=F.apart
 len:=F.len
theorem zF{α : Type}{l:List α}{x y:α}(h:(l.set i x)[j]?=some y):(i=j/\y=x/\i<l.length)\/(i≠j/\l[j]?=some y):=by
 by_cases e:i=j
 . subst e
   grind
 simp_all
theorem Fr3.vw(F:Fr3 K H0 G0 ρ σ G H){i:Nat}{c:Cl}{v:V}(h:ρ[i]?=some (some c))(h':σ[i]?=some (some v)):Vw K H0 G H v c:=by
 obtain⟨u,a,b⟩:=F.slot i c h
 grind
theorem Fr3.put(F:Fr3 K H0 G0 ρ σ G H){i:Nat}{v:V}{c:Cl}(s:zh H H')(w:Vw K H0 G H' v c)(O:∀ a,Has c v a->H a=none):Fr3 K H0 G0 (ρ.set i (some c)) (σ.set i (some v)) G H':=by
 have u:=F.gr ⟨Same.refl _,s,F.sub.trans s,fun _ _ e=>.inl e⟩
 have L:∀ (j:Nat) (l:Cl) (z:V) (a:Addr),ρ[j]?=some _->σ[j]?=some _->Has l z a->Has c v a->False:=fun j l z a e p h Q=>by
  obtain⟨⟨o,q,_⟩,_⟩:=(F.vw e p).has h
  simp_all
 exact {
  keep:=u.keep
  sub:=u.sub
  old:=u.old
  g0:=u.g0
  slot:=fun j l e=>by
   rcases zF e with ⟨rfl,q,y⟩|⟨n,q⟩
   . cases q
     exact⟨v,by rw [Yas (by rw [<-F.len];exact y)],w⟩
   . obtain⟨z,A,B⟩:=u.slot j l q
     simp_all
  mine:=fun j l z a e p h=>by
   rcases zF e with ⟨rfl,q,y⟩|⟨n,q⟩
   . cases q
     rw [Yas (by rw [<-F.len];exact y)] at p
     cases p;exact F.keep.free (O a h)
   . rw [Yac n] at p
     exact F.mine j l z a q p h
  apart:=fun j k E J N M a P I b m A B=>by
   rcases zF P with ⟨rfl,q,y⟩|⟨n,q⟩
   . rcases zF I with ⟨rfl,g,r⟩|⟨C,g⟩
     . rfl
     . cases q
       rw [Yas (by rw [<-F.len];exact y)] at b
       cases b;rw [Yac C] at m
       exact(L k J M a g m B A).elim
   . rcases zF I with ⟨rfl,g,r⟩|⟨C,g⟩
     . cases g
       rw [Yas (by rw [<-F.len];exact r)] at m
       cases m;rw [Yac n] at b
       exact(L j E N a q b A B).elim
     . rw [Yac n] at b
       rw [Yac C] at m;exact F.apart j k E J N M a q g b m A B
  len:=by rw [YaN,YaN];exact F.len }
theorem Fr3.set(F:Fr3 K H0 G0 ρ σ G H){i:Nat}{v:V}{f:Bool}{d:D}(r:Rf K H0 G f v d):Fr3 K H0 G0 (ρ.set i (some (.sh f d))) (σ.set i (some v)) G H:=F.put (zh.refl _) (.sh r) fun _ h=>Xj h
theorem Fr3.own(F:Fr3 K H0 G0 ρ σ G H){i:Nat}{l:Addr}{vs:List V}{f:Bool}{ds:List D}(r:Rfs K H0 G f vs ds)(b:H l=none):Fr3 K H0 G0 (ρ.set i (some (.ow f ds))) (σ.set i (some (.ref l))) G (upd H l (.lst vs)):=
 F.put (zx b _).x (.ow zf r (F.sub.free b)) fun a h=>by cases h;exact b
theorem Fr3.chg(F:Fr3 K H0 G0 ρ σ G H){i:Nat}{l:Addr}{o:HO}{c c':Cl}{v:V}(r:ρ[i]?=some (some c))(g:σ[i]?=some (some v))(J:Has c v l)(I:∀ a,Has c' v a->Has c v a)(w:Vw K H0 G (upd H l o) v c'):Fr3 K H0 G0 (ρ.set i (some c')) σ G (upd H l o):=by
 have T:=F.mine i c v l r g J;obtain⟨⟨W,O,y⟩,S⟩:=(F.vw r g).has J;refine⟨F.keep.chg T O y,⟨fun b o e=>by rw [zc (je e S)];exact F.sub.s b o e,F.sub.cl⟩,F.old,F.g0,fun j m e=>?_,fun j m E a e L h=>?_,fun j k M m Q E a R N A B s u=>?_,by rw [YaN];exact F.len⟩
 . rcases zF e with ⟨rfl,q,_⟩|⟨n,q⟩
   . simp_all
   . obtain⟨P,s,u⟩:=F.slot j m q
     refine⟨P,s,u.turn (Same.refl _) (fun a C e=>?_) fun a h=>⟨?_,rfl⟩⟩
     . rw [zc (fun z=>by subst z;rw [O] at e;exact y _ (Wa3 e))];exact e
     . rw [zc (fun z=>by subst z;exact n (F.apart i j c m v P a r q g s J h))]
 . rcases zF e with ⟨rfl,q,_⟩|⟨n,q⟩
   . cases q
     rw [g] at L;cases L;exact F.mine i c v a r g (I a h)
   . exact F.mine j m E a q L h
 . rcases zF R with ⟨rfl,q,_⟩|⟨n,q⟩
   . rcases zF N with ⟨rfl,p,_⟩|⟨U,p⟩
     . rfl
     . cases q
       rw [g] at A;cases A;exact F.apart i k c m v E a r p g B (I a s) u
   . rcases zF N with ⟨rfl,p,_⟩|⟨U,p⟩
     . cases p
       rw [g] at B;cases B;exact F.apart j i M c Q v a q r A g s (I a u)
     . exact F.apart j k M m Q E a q p A B s u
theorem Fr3.change(F:Fr3 K H0 G0 ρ σ G H){i:Nat}{l:Addr}{vs:List V}{f f':Bool}{ds es:List D}(b:ρ[i]?=some (some (.ow f ds)))(a:σ[i]?=some (some (.ref l)))(r:Rfs K H0 G f' vs es):Fr3 K H0 G0 (ρ.set i (some (.ow f' es))) σ G (upd H l (.lst vs)):=
 F.chg b a rfl (fun _ h=>h) (.ow zf r ((F.vw b a).has rfl).2)
theorem Fr3.still(F:Fr3 K H0 G0 ρ σ G H){i:Nat}{c:Cl}{v:V}{f:Bool}{d:D}(s:ρ[i]?=some (some c))(m:σ[i]?=some (some v))(r:∀ G',Same G G'->(∀ a,Has c v a->G' a=H a/\H0 a=none)->Rf K H0 G' f v d):∃ G',Same G G'/\Fr3 K H0 G0 (ρ.set i (some (.sh f d))) σ G' H:=by
 have T:∀ b,Decidable (Has c v b):=fun b=>X3 _
 have w:=F.vw s m;have B:∀ b,Has c v b->(fun b=>if Has c v b then H b else G b) b=H b:=fun b h=>if_pos h
 have g:∀ b,¬Has c v b->(fun b=>if Has c v b then H b else G b) b=G b:=fun b h=>if_neg h
 generalize (fun b=>if Has c v b then H b else G b)=G' at B g
 have y:Same G G':=fun b o e=>by
  rw [g b (fun h=>by rw [(w.has h).2] at e;cases e)];exact e
 refine⟨G',y,F.keep,⟨fun b o e=>?_,fun b f e=>?_⟩,fun b o e=>?_,F.g0.trans y,fun j l e=>?_,fun j l C a e Q h=>?_,fun j k I l M C a O L J P p z=>?_,by rw [YaN];exact F.len⟩
 . by_cases h:Has c v b
   . rw [B b h] at e;exact e
   . rw [g b h] at e;exact F.sub.s b o e
 . by_cases h:Has c v b
   . obtain⟨⟨u,R,S⟩,_⟩:=w.has h
     simp_all
   . rw [g b h] at e;exact F.sub.cl b f e
 . by_cases h:Has c v b
   . exact .inr (.inl (F.mine i c v b s m h))
   . rw [g b h] at e;exact F.old b o e
 . rcases zF e with ⟨rfl,q,_⟩|⟨n,q⟩
   . cases q
     exact⟨v,m,.sh (r G' y fun a h=>⟨B a h,F.mine i c v a s m h⟩)⟩
   . obtain⟨E,p,z⟩:=F.slot j l q
     exact⟨E,p,z.turn y (fun _ _ e=>e) fun a h=>⟨rfl,g a fun N=>n (F.apart i j c l v E a s q m p N h)⟩⟩
 . rcases zF e with ⟨rfl,q,_⟩|⟨n,q⟩
   . cases q;exact Xj h
   . exact F.mine j l C a q Q h
 . rcases zF O with ⟨rfl,q,_⟩|⟨n,q⟩
   . cases q;exact Xj p
   . rcases zF L with ⟨rfl,A,_⟩|⟨U,A⟩
     . cases A;exact Xj z
     . exact F.apart j k I l M C a q A J P p z
theorem Fr3.freeze(F:Fr3 K H0 G0 ρ σ G H){i:Nat}{f:Bool}{ds:List D}(c:ρ[i]?=some (some (.ow f ds))):∃ G',Same G G'/\Fr3 K H0 G0 (ρ.set i (some (.sh f (.list ds)))) σ G' H:=by
 obtain⟨v,g,w⟩:=F.slot i _ c;refine F.still c g fun G' b q=>?_
 cases w with
 | ow h r n=>
  obtain⟨a,j⟩:=q _ rfl;rw [h] at a;exact⟨.lst (SqL.of a) (rdvs_same b r.rd),fun e=>.lst a j (rdns_mono b (fun _ _ _ z=>z) (r.nw e))⟩
theorem znF{ms:List (List D)}(a:ps.length=ms.length)(h:∀ (k:Nat) (p:Addr) (m:List D),ps[k]?=some p->ms[k]?=some m->RdN K H0 G (.ref p) (.list m)):RdNs K H0 G (ps.map V.ref) (ms.map XB):=by
 induction ps generalizing ms with
 | nil => cases ms with
  | nil=>exact .nil
  | cons m ms=>cases a
 | cons p ps b => cases ms with
  | nil=>cases a
  | cons m ms=>exact .cons (h 0 p m rfl rfl) (b (Nat.succ.inj a) fun k q n e c=>h (k+1) q n (by simp_all) (by simp_all))
theorem Fr3.freezeT(F:Fr3 K H0 G0 ρ σ G H){i:Nat}{ps:List Addr}{ms:List (List D)}(e:ρ[i]?=some (some (.tr ps ms))):∃ G',Same G G'/\Fr3 K H0 G0 (ρ.set i (some (.sh true (.list (ms.map XB))))) σ G' H:=by
 obtain⟨v,h,w⟩:=F.slot i _ e;refine F.still e h fun G' r q=>?_
 cases w with
 | tr t=>
  obtain⟨o,l⟩:=q _ (.inl rfl);have n:RdN K H0 G' _ _:=.lst (o.trans t.top) l (znF t.len fun k p m g u=>by
   obtain⟨y,a,b,c⟩:=t.item k p m g u;obtain⟨j,s⟩:=q p (.inr (Yah g));exact .lst (j.trans a) s (rdns_mono r (fun _ _ _ z=>z) (c.nw rfl)))
  exact⟨zcR n,fun _=>n⟩
theorem Fr3.rebase(F:Fr3 K H0 G0 ρ σ G H):Fr3 K H0 G ρ σ G H:=⟨F.keep,F.sub,fun _ _ e=>.inl e,Same.refl _,F.slot,F.mine,F.apart,F.len⟩
theorem Fr3.back{ρ1:Env3}{σ1:L2.St}{G1 H1:Hp}(F:Fr3 K H0 G1 ρ σ G H)(B:Fr3 K H0 G0 ρ1 σ1 G1 H1):Fr3 K H0 G0 ρ σ G H:=
 ⟨F.keep,F.sub,fun b o e=>(F.old b o e).elim (fun q=>B.old b o q) .inr,B.g0.trans F.g0,F.slot,F.mine,F.apart,F.len⟩
theorem Fr3.gr0(F:Fr3 K H0 G0 ρ σ G H):Gr G0 H0 G H:=⟨F.g0,F.keep,F.sub,F.old⟩
theorem Gr.back{ρ1:Env3}{σ1:L2.St}{G1 H1:Hp}(g:Gr G1 H0 G H)(B:Fr3 K H0 G0 ρ1 σ1 G1 H1):Gr G0 H0 G H:=
 ⟨B.g0.trans g.g,g.h,g.sub,fun b o e=>(g.new b o e).elim (fun q=>B.old b o q) .inr⟩
end
variable[LamW]
theorem el5{α β γ : Type}{P R:α->β->γ->Prop}{C:Prop}(f:∀ a b c,P a b c->R a b c->C)(h:∃ a b c,P a b c/\R a b c):C:=by
 grind
theorem el7{α β γ δ : Type}{P R S:α->β->γ->δ->Prop}{C:Prop}(f:∀ a b c d,P a b c d->R a b c d->S a b c d->C)(h:∃ a b c d,P a b c d/\R a b c d/\S a b c d):C:=by
 grind
theorem el2{α β : Type}{P R S:α->β->Prop}{C:Prop}(f:∀ a b,P a b->R a b->S a b->C)(h:∃ a b,P a b/\R a b/\S a b):C:=by
 grind
theorem el3{α β γ : Type}{P R S T:α->β->γ->Prop}{C:Prop}(f:∀ a b c,P a b c->R a b c->S a b c->T a b c->C)(h:∃ a b c,P a b c/\R a b c/\S a b c/\T a b c):C:=by
 grind
abbrev TE3:=Env3->(Cl->Prop)->Prop
abbrev TT3:=Env3->(Bool->Prop)->Prop
variable{ds:List D}{te ta tb tc:TE3}{A:Addr}{o:Option (Option Cl)}{P:Bool->List D->Prop}{tt:TT3}{c:Cl}{g:Int->Int->Int}{ps:List Str}{ρ:Env3}{a b:Expr}{p:Pos}
abbrev TA3:=Env3->(List Cl->Prop)->Prop
abbrev TN3:=Env3->(Bool->List D->Prop)->Prop
structure Ends3 where
 nx:Env3->Prop
 rt:Bool->D->Prop
 bk:Env3->Prop:=fun _=>False
 ct:Env3->Prop:=fun _=>False
 rm:Cl->Env3->Prop:=fun _ _=>False
abbrev TS3:=Ends3->Env3->Prop
def jS(K:Ybf)(H0:Hp)(t:TE3):TE:=fun σ H Q=>∃ G0 ρ G,Fr3 K H0 G0 ρ σ G H/\t ρ fun c=>∀ v G' H',Gr G H G' H'->Vw K H0 G' H' v c->Q v H'
def zfb(K:Ybf)(H0:Hp)(t:TN3):TE:=fun σ H Q=>∃ G0 ρ G,Fr3 K H0 G0 ρ σ G H/\t ρ fun f ds=>∀ l vs G' H',Gr G H G' H'->H' l=none->Rfs K H0 G' f vs ds->Q (.ref l) (upd H' l (.lst vs))
def Zq(K:Ybf)(H0:Hp)(t:TT3):TT:=fun σ H Q=>∃ G0 ρ G,Fr3 K H0 G0 ρ σ G H/\t ρ fun b=>∀ G' H',Gr G H G' H'->Q b H'
def zkt(K:Ybf)(H0:Hp)(t:TA3):TA:=fun σ H Q=>∃ G0 ρ G,Fr3 K H0 G0 ρ σ G H/\t ρ fun cs=>∀ vs G' H',Gr G H G' H'->Vws K H0 G' H' vs cs->Q vs H'
structure LD(K:Ybf)(H0 G0:Hp)(A:Ends3)(B:Ends):Prop where
 nx:∀ ρ σ G H,Fr3 K H0 G0 ρ σ G H->A.nx ρ->B.nx σ H
 rt:∀ f d v G H,Gr G0 H0 G H->Rf K H0 G f v d->A.rt f d->B.rt v H
 bk:∀ ρ σ G H,Fr3 K H0 G0 ρ σ G H->A.bk ρ->B.bk σ H
 ct:∀ ρ σ G H,Fr3 K H0 G0 ρ σ G H->A.ct ρ->B.ct σ H
 rm:∀ c v ρ σ G H,Fr3 K H0 G0 ρ σ G H->Vw K H0 G H v c->(∀ a,Has c v a->H0 a=none/\∀ (j:Nat) (c':Cl) (v':V),ρ[j]?=some (some c')->σ[j]?=some (some v')->¬Has c' v' a)->A.rm c ρ->B.rt v H
def zeX(K:Ybf)(H0:Hp)(t:TS3):TS:=fun B σ H=>∃ G0 A ρ G,Fr3 K H0 G0 ρ σ G H/\t A ρ/\LD K H0 G0 A B
structure PE3(X:Cx)(H0:Hp)(e:Expr)(t:TE3):Prop where
 mono:∀ ρ (Q Q':Cl->Prop),(∀ c,Q c->Q' c)->t ρ Q->t ρ Q'
 ok:PE X e (jS X.K H0 t)
structure PN3(X:Cx)(H0:Hp)(e:Expr)(t:TN3):Prop where
 mono:∀ ρ (Q Q':Bool->List D->Prop),(∀ f c,Q f c->Q' f c)->t ρ Q->t ρ Q'
 ok:PE X e (zfb X.K H0 t)
structure PT3(X:Cx)(H0:Hp)(e:Expr)(t:TT3):Prop where
 mono:∀ ρ (Q Q':Bool->Prop),(∀ c,Q c->Q' c)->t ρ Q->t ρ Q'
 ok:PT X e (Zq X.K H0 t)
structure PW3(X:Cx)(H0:Hp)(e:Expr)(t:TT3):Prop where
 mono:∀ ρ (Q Q':Bool->Prop),(∀ c,Q c->Q' c)->t ρ Q->t ρ Q'
 ok:PW X e (Zq X.K H0 t)
structure PA3(X:Cx)(H0:Hp)(es:List Expr)(t:TA3):Prop where
 mono:∀ ρ (Q Q':List Cl->Prop),(∀ c,Q c->Q' c)->t ρ Q->t ρ Q'
 ok:PA X es (zkt X.K H0 t)
def PS3(X:Cx)(H0:Hp)(st:Stmt)(t:TS3):Prop:=PS X st (zeX X.K H0 t)
def PSs3(X:Cx)(H0:Hp)(st:List Stmt)(t:TS3):Prop:=PSs X st (zeX X.K H0 t)
theorem PE.imp{t':TE}(h:PE X e t)(i:∀ σ H Q,t' σ H Q->t σ H Q):PE X e t':=fun a s σ H Q I q=>h _ s σ H Q I (i _ _ _ q)
theorem PT.imp{t':TT}(h:PT X e t)(i:∀ σ H Q,t' σ H Q->t σ H Q):PT X e t':=fun a s σ H Q I q=>h _ s σ H Q I (i _ _ _ q)
theorem PW.imp{t':TT}(h:PW X e t)(i:∀ σ H Q,t' σ H Q->t σ H Q):PW X e t':=fun b a s σ H Q I q=>h b _ s σ H Q I (i _ _ _ q)
theorem PA.imp{e:List Expr}{t':TA}(h:PA X e t)(i:∀ σ H Q,t' σ H Q->t σ H Q):PA X e t':=fun a b s σ H Q I q=>h a _ s σ H Q I (i _ _ _ q)
theorem PS.imp{e:Stmt}{t':TS}(h:PS X e t)(i:∀ B σ H,t' B σ H->t B σ H):PS X e t':=fun a s σ H B I q=>h _ s σ H B I (i _ _ _ q)
theorem PSs.imp{e:List Stmt}{t':TS}(h:PSs X e t)(i:∀ B σ H,t' B σ H->t B σ H):PSs X e t':=fun a s σ H B I q=>h _ s σ H B I (i _ _ _ q)
section
variable{c:Expr}
def atV(o:Option (Option Cl))(P:Cl->Prop):Prop:=match o with
 | some (some c)=>P c
 | _=>False
theorem zf7{P:Cl->Prop}(h:atV o P):∃ c,o=some (some c)/\P c:=by
 cases o with
 | none=>exact Xj h
 | some x => cases x with
  | none=>exact Xj h
  | some c=>exact⟨c,rfl,h⟩
def asS(c:Cl)(P:Bool->D->Prop):Prop:=match c with
 | .sh f d=>P f d
 | _=>False
theorem j6{c:Cl}{P:Bool->D->Prop}(h:asS c P):∃ f d,c=.sh f d/\P f d:=by
 cases c with
 | sh f d=>exact⟨f,d,rfl,h⟩
 | _=>exact Xj h
def asD(d:D)(P:Bool->Prop):Prop:=match d with
 | .bool k=>P k
 | _=>False
def asB(c:Cl)(P:Bool->Prop):Prop:=match c with
 | .sh true d=>asD d P
 | _=>False
theorem zfU{c:Cl}{P:Bool->Prop}(h:asB c P):∃ k,c=.sh true (.bool k)/\P k:=by
 cases c with
 | sh f d => cases f with
  | true => cases d with
   | bool k=>exact⟨k,rfl,h⟩
   | _=>exact Xj h
  | false=>exact Xj h
 | _=>exact Xj h
def optP{α : Type}(o:Option α)(P:α->Prop):Prop:=match o with
 | some a=>P a
 | none=>False
theorem zb8{o:Option α}{P:α->Prop}(h:optP o P):∃ a,o=some a/\P a:=by
 cases o with
 | none=>exact Xj h
 | some a=>exact⟨a,rfl,h⟩
def asT(d:D)(P:List D->Prop):Prop:=match d with
 | .tuple ds=>P ds
 | _=>False
theorem Z3{P:List D->Prop}(h:asT d P):∃ ds,d=.tuple ds/\P ds:=by
 cases d with
 | tuple ds=>exact⟨ds,rfl,h⟩
 | _=>exact Xj h
def asLd(d:D)(P:List D->Prop):Prop:=match d with
 | .list ds=>P ds
 | _=>False
def asL(c:Cl)(P:Bool->List D->Prop):Prop:=match c with
 | .sh f d=>asLd d (P f)
 | _=>False
theorem zgB{c:Cl}(h:asL c P):∃ f ds,c=.sh f (.list ds)/\P f ds:=by
 cases c with
 | sh f d => cases d with
  | list ds=>exact⟨f,ds,rfl,h⟩
  | _=>exact Xj h
 | _=>exact Xj h
def atO(o:Option (Option Cl))(P:Bool->List D->Prop):Prop:=match o with
 | some (some (.ow f ds))=>P f ds
 | _=>False
theorem zfk(h:atO o P):∃ f ds,o=some (some (.ow f ds))/\P f ds:=by
 cases o with
 | none=>exact Xj h
 | some x => cases x with
  | none=>exact Xj h
  | some c => cases c with
   | ow f ds=>exact⟨f,ds,rfl,h⟩
   | _=>exact Xj h
def J3{α : Type}(l:List α)(P:α->List α->Prop):Prop:=match l with
 | d::r=>P d r
 | []=>False
theorem zfL{l:List α}{P:α->List α->Prop}(h:J3 l P):∃ d r,l=d::r/\P d r:=by
 cases l with
 | nil=>exact Xj h
 | cons d r=>exact⟨d,r,rfl,h⟩
def nilP{α : Type}(l:List α)(P:Prop):Prop:=match l with
 | []=>P
 | _::_=>False
theorem zfl{l:List α}{P:Prop}(h:nilP l P):l=[]/\P:=by
 cases l with
 | nil=>exact⟨rfl,h⟩
 | cons d r=>exact Xj h
def asId(d:D)(P:Int->Prop):Prop:=match d with
 | .int i=>P i
 | _=>False
def asI(c:Cl)(P:Int->Prop):Prop:=match c with
 | .sh true d=>asId d P
 | _=>False
theorem jG{c:Cl}{P:Int->Prop}(h:asI c P):∃ k,c=.sh true (.int k)/\P k:=by
 cases c with
 | sh f d => cases f with
  | true => cases d with
   | int k=>exact⟨k,rfl,h⟩
   | _=>exact Xj h
  | false=>exact Xj h
 | _=>exact Xj h
def v3(i:Nat):TE3:=fun ρ Q=>atV ρ[i]? Q
def k3(d:D):TE3:=fun _ Q=>Q (.sh true d)
theorem n3(i:Nat){x:Str}(n:X.N[i]?=some x:=by rfl)(b:Vis X.env.scope x:=by first|exact Uq rfl|exact Wv (Uq rfl)|exact Wv (Wv rfl))(m:(x==("__debug__" : Str))=false:=by decide)(a:(x==("__classdict__" : Str))=false:=by decide) :
 PE3 X H0 (.Name x pos) (v3 i):=by
 refine⟨fun ρ Q g h q=>?_,PE.imp (z9 n b m a) fun σ H Q=>el5 fun o ρ G F q=>?_⟩
 . obtain⟨c,e,q⟩:=zf7 q
   show atV _ g
   rw [e];exact h c q
 obtain⟨c,e,q⟩:=zf7 q;obtain⟨v,j,l⟩:=F.slot i c e;exact⟨v,j,q v G H (Gr.refl F.sub) l⟩
theorem zaS{v:V}{d:D}(h:PE X e (tC v))(r:∀ G,RdV X.K G v d)(a:zt d=true):PE3 X H0 e (k3 d):=
 ⟨fun ρ Q b h q=>h _ q,PE.imp h fun σ H Q=>el5 fun c ρ G F q=>q v G H (Gr.refl F.sub) (.sh (.sc a (r G)))⟩
theorem i3{i j pos}:PE3 X H0 (.Constant (.int i) j pos) (k3 (.int i)):=zaS jO (fun _=>.int i) rfl
theorem b3{i j pos}:PE3 X H0 (.Constant (.bool i) j pos) (k3 (.bool i)):=zaS zgJ (fun _=>.bl i) rfl
theorem non3{j pos}:PE3 X H0 (.Constant .none j pos) (k3 .none):=zaS zkG (fun _=>.non) rfl
theorem s3{i j pos}:PE3 X H0 (.Constant (.str i) j pos) (k3 (.str i)):=zaS zf2 (fun _=>.str i) rfl
theorem g3{x:Str}{v:V}{u:Value}{d:D}(c:Gl X x)(a:X.mg x=some u)(r:RelV v u)(g:∀ G,RdV X.K G v d)(e:zt d=true)(b:(x==("__debug__" : Str))=false:=by decide):PE3 X H0 (.Name x pos) (k3 d):=zaS (zf0 c a r b) g e
def nw3(t:TN3):TE3:=fun ρ Q=>t ρ fun f ds=>Q (.sh f (.list ds))
theorem new3{t:TN3}(h:PN3 X H0 e t):PE3 X H0 e (nw3 t):=
 ⟨fun ρ Q n j q=>h.mono ρ _ _ (fun f i=>j _) q,PE.imp h.ok fun σ H Q=>el5 fun c ρ G F q=>⟨c,ρ,G,F,h.mono ρ _ _ (fun f i k l o p m g a r=>
  k _ _ _ (g.trans (Gr.put g.sub a)) (.sh ⟨.lst (SqL.of zf) (rdvs_same (zx (g.sub.free a) _) r.rd),fun b=>.lst zf ((F.keep.trans g.h).free a) (rdns_mono (zx (g.sub.free a) _) (fun _ _ _ z=>z) (r.nw b))⟩)) q⟩⟩
abbrev R3:=Cl->Cl->(Bool->D->Prop)->Prop
def zbd(K:Ybf)(H0:Hp)(r:R3):R2:=fun x y H Q=>∃ G a b,Sub G H/\Vw K H0 G H x a/\Vw K H0 G H y b/\r a b fun f d=>∀ v G' H',Gr G H G' H'->Rf K H0 G' f v d->Q v H'
structure OpOk(X:Cx)(f:Value->Value->Sem Value)(r:R3):Prop where
 mono:∀ a b (Q Q':Bool->D->Prop),(∀ f c,Q f c->Q' f c)->r a b Q->r a b Q'
 ok:∀ H0,OpR X f (zbd X.K H0 r)
theorem OpR.imp{r r':R2}(h:OpR X f r)(i:∀ x y H Q,r' x y H Q->r x y H Q):OpR X f r':=fun a s σ H x y v u Q I c b q=>h _ s σ H x y v u Q I c b (i _ _ _ _ q)
def o3(r:R3)(ta tb:TE3):TE3:=fun ρ Q=>ta ρ fun a=>tb ρ fun b=>r a b fun f d=>Q (.sh f d)
theorem zbc{r:R3}(e:∀ a b (Q Q':Bool->D->Prop),(∀ f c,Q f c->Q' f c)->r a b Q->r a b Q')(g:∀ ρ (Q Q':Cl->Prop),(∀ c,Q c->Q' c)->ta ρ Q->ta ρ Q')(i:∀ ρ (Q Q':Cl->Prop),(∀ c,Q c->Q' c)->tb ρ Q->tb ρ Q') :
 ∀ ρ (Q Q':Cl->Prop),(∀ c,Q c->Q' c)->o3 r ta tb ρ Q->o3 r ta tb ρ Q':=fun ρ Q Q' h q=>g ρ _ _ (fun a=>i ρ _ _ fun b=>e a b _ _ fun f d=>h _) q
theorem zci{r:R3}{ta tb:TE3}(z:∀ a b (Q Q':Bool->D->Prop),(∀ f c,Q f c->Q' f c)->r a b Q->r a b Q')(s:∀ ρ (Q Q':Cl->Prop),(∀ c,Q c->Q' c)->ta ρ Q->ta ρ Q')(p:∀ ρ (Q Q':Cl->Prop),(∀ c,Q c->Q' c)->tb ρ Q->tb ρ Q'){K:Ybf} :
 ∀ σ H Q,jS K H0 (o3 r ta tb) σ H Q->tOp (zbd K H0 r) (jS K H0 ta) (jS K H0 tb) σ H Q:=fun σ H Q=>el5 fun h ρ G F q=>
 ⟨h,ρ,G,F,s ρ _ _ (fun a m E n A i u=>⟨h,ρ,n,F.gr i,p ρ _ _ (fun b l C w B e o=>⟨w,a,b,e.sub,u.gr e,o,z a b _ _ (fun f d k v y j g r=>k v y j ((i.trans e).trans g) (.sh r)) l⟩) m⟩) q⟩
theorem op3{op:Operator}{r:R3}{ta tb:TE3}(e:OpOk X (binaryOp op) r)(g:PE3 X H0 a ta)(c:PE3 X H0 b tb):PE3 X H0 (.BinOp a op b pos) (o3 r ta tb):=
 ⟨zbc e.mono g.mono c.mono,PE.imp (Jn (e.ok H0) g.ok c.ok) (zci e.mono g.mono c.mono)⟩
theorem cmp3{op:CmpOp}{r:R3}{ta tb:TE3}(e:OpOk X (compareOp op) r)(g:PE3 X H0 a ta)(c:PE3 X H0 b tb)(h:behindInMarks op b=false):PE3 X H0 (.Compare a [op] [b] pos) (o3 r ta tb):=
 ⟨zbc e.mono g.mono c.mono,PE.imp (znC (e.ok H0) g.ok c.ok h) (zci e.mono g.mono c.mono)⟩
def tt3(t:TE3):TT3:=fun ρ Q=>t ρ fun c=>asB c Q
theorem ziO(w:Vw K H0 G H v (.sh f (.bool k))):v=.bl k:=by
 cases w with
 | sh r=>cases r.rd;rfl
theorem zd9{t:TE3}{K:Ybf}(h:∀ ρ (Q Q':Cl->Prop),(∀ c,Q c->Q' c)->t ρ Q->t ρ Q'):∀ σ H Q,Zq K H0 (tt3 t) σ H Q->zaN (jS K H0 t) σ H Q:=fun σ H Q=>el5 fun b ρ G F q=>
 ⟨b,ρ,G,F,h ρ _ _ (fun c q v i a g w=>by obtain⟨k,e,q⟩:=zfU q;subst e;exact⟨k,ziO w,q i a g⟩) q⟩
theorem zbU{t:TE3}(a:∀ ρ (Q Q':Cl->Prop),(∀ c,Q c->Q' c)->t ρ Q->t ρ Q'):∀ ρ (Q Q':Bool->Prop),(∀ c,Q c->Q' c)->tt3 t ρ Q->tt3 t ρ Q':=fun ρ Q Q' h q=>a ρ _ _ (fun c q=>by obtain⟨k,e,q⟩:=zfU q;subst e;exact h k q) q
theorem zhg{t t':TE}(h:∀ σ H Q,t' σ H Q->t σ H Q):∀ σ H Q,zaN t' σ H Q->zaN t σ H Q:=fun σ H Q q=>h _ _ _ q
theorem zr{op:CmpOp}{r:R3}{ta tb:TE3}(c:OpOk X (compareOp op) r)(e:PE3 X H0 a ta)(g:PE3 X H0 b tb)(h:behindInMarks op b=false):PT3 X H0 (.Compare a [op] [b] pos) (tt3 (o3 r ta tb)):=
 ⟨zbU (zbc c.mono e.mono g.mono),PT.imp (zbo (c.ok H0) e.ok g.ok h) fun σ H Q q=>zhg (zci c.mono e.mono g.mono) σ H Q (zd9 (zbc c.mono e.mono g.mono) σ H Q q)⟩
def ch3(r r':R3)(ta tb tc:TE3):TE3:=fun ρ Q=>ta ρ fun x=>tb ρ fun y=>r x y fun _ z=>∃ k,z=.bool k/\if k=true then tc ρ fun w=>r' y w fun f d=>Q (.sh f d) else Q (.sh true (.bool false))
theorem zeB(w:RdV K G v (.bool k)):v=.bl k:=by cases w;rfl
theorem zgN{r r':R3}(j:∀ a b (Q Q':Bool->D->Prop),(∀ f c,Q f c->Q' f c)->r a b Q->r a b Q')(g:∀ a b (Q Q':Bool->D->Prop),(∀ f c,Q f c->Q' f c)->r' a b Q->r' a b Q')(m:∀ ρ (Q Q':Cl->Prop),(∀ c,Q c->Q' c)->ta ρ Q->ta ρ Q')(i:∀ ρ (Q Q':Cl->Prop),(∀ c,Q c->Q' c)->tb ρ Q->tb ρ Q')
 (l:∀ ρ (Q Q':Cl->Prop),(∀ c,Q c->Q' c)->tc ρ Q->tc ρ Q'):∀ ρ (Q Q':Cl->Prop),(∀ c,Q c->Q' c)->ch3 r r' ta tb tc ρ Q->ch3 r r' ta tb tc ρ Q':=fun ρ Q Q' h q=>m ρ _ _ (fun x=>i ρ _ _ fun y=>j x y _ _ fun _ z ⟨k,e,q⟩=>⟨k,e,by
 cases k with
 | true=>exact l ρ _ _ (fun w=>g y w _ _ fun f d=>h _) q
 | false=>exact h _ q⟩) q
theorem zjB{r r':R3}{ta tb tc:TE3}(T:∀ a b (Q Q':Bool->D->Prop),(∀ f c,Q f c->Q' f c)->r a b Q->r a b Q')(l:∀ a b (Q Q':Bool->D->Prop),(∀ f c,Q f c->Q' f c)->r' a b Q->r' a b Q')(C:∀ ρ (Q Q':Cl->Prop),(∀ c,Q c->Q' c)->ta ρ Q->ta ρ Q')(E:∀ ρ (Q Q':Cl->Prop),(∀ c,Q c->Q' c)->tb ρ Q->tb ρ Q')
 (N:∀ ρ (Q Q':Cl->Prop),(∀ c,Q c->Q' c)->tc ρ Q->tc ρ Q') {K:Ybf}:∀ σ H Q,jS K H0 (ch3 r r' ta tb tc) σ H Q->zg0 (zbd K H0 r) (zbd K H0 r') (jS K H0 ta) (jS K H0 tb) (jS K H0 tc) σ H Q:=fun σ H Q=>el5 fun m ρ G F q=>
 ⟨m,ρ,G,F,C ρ _ _ (fun x A Z B W i I=>⟨m,ρ,B,F.gr i,E ρ _ _ (fun y P Y J H2 h p=>⟨J,x,y,h.sub,I.gr h,p,T x y _ _ (fun _ z n v3 s M j L=>by
  obtain⟨k,e,q⟩:=n;subst e;refine⟨k,zeB L.rd,?_⟩;cases k with
  | false=>exact q _ s M ((i.trans h).trans j) (.sh (.sc rfl (.bl false)))
  | true=>exact⟨m,ρ,s,F.gr ((i.trans h).trans j),N ρ _ _ (fun w O X S H4 o U=>⟨S,y,w,o.sub,(p.gr j).gr o,U,l y w _ _ (fun f d k v R u g r=>k v R u ((((i.trans h).trans j).trans o).trans g) (.sh r)) O⟩) q⟩) P⟩) A⟩) q⟩
theorem za4{op op':CmpOp}{r r':R3}{ta tb tc:TE3}(g:OpOk X (compareOp op) r)(e:OpOk X (compareOp op') r')(h:PE3 X H0 a ta)(j:PE3 X H0 b tb)(i:PE3 X H0 c tc)(l:lastMarks [op,op'] [b,c]=false:=by with_unfolding_all rfl) :
 PT3 X H0 (.Compare a [op,op'] [b,c] pos) (tt3 (ch3 r r' ta tb tc)):=
 ⟨zbU (zgN g.mono e.mono h.mono j.mono i.mono),PT.imp (zjp (g.ok H0) (e.ok H0) h.ok j.ok i.ok l) fun σ H Q q=>zhg (zjB g.mono e.mono h.mono j.mono i.mono) σ H Q (zd9 (zgN g.mono e.mono h.mono j.mono i.mono) σ H Q q)⟩
abbrev U3:=Cl->(Bool->D->Prop)->Prop
def zjR(K:Ybf)(H0:Hp)(r:U3):V->Hp->VK->Prop:=fun x H Q=>∃ G a,Sub G H/\Vw K H0 G H x a/\r a fun f d=>∀ v G' H',Gr G H G' H'->Rf K H0 G' f v d->Q v H'
structure UnOk(X:Cx)(f:Value->Sem Value)(r:U3):Prop where
 mono:∀ a (Q Q':Bool->D->Prop),(∀ f c,Q f c->Q' f c)->r a Q->r a Q'
 ok:∀ H0,UnR X f (zjR X.K H0 r)
def u3(r:U3)(ta:TE3):TE3:=fun ρ Q=>ta ρ fun a=>r a fun f d=>Q (.sh f d)
theorem un3{op:UnaryOp}{r:U3}{ta:TE3}(b:UnOk X (unaryOp op) r)(c:PE3 X H0 a ta):PE3 X H0 (.UnaryOp op a pos) (u3 r ta):=
 ⟨fun ρ Q p h q=>c.mono ρ _ _ (fun a=>b.mono a _ _ fun f d=>h _) q,PE.imp (zjv (b.ok H0) c.ok) fun σ H Q=>el5 fun j ρ G F q=>
  ⟨j,ρ,G,F,c.mono ρ _ _ (fun a l u m s e n=>⟨m,a,e.sub,n,b.mono a _ _ (fun f d k v o i g r=>k v o i (e.trans g) (.sh r)) l⟩) q⟩⟩
theorem val3{t:TE3}(h:PE3 X H0 e t)(a:∀ whole,isTrue e X.env whole=(do let v <-whole;standAt e.pos;holding [v] (truthy v)):=by intro _;rfl):PT3 X H0 e (tt3 t):=
 ⟨zbU h.mono,PT.imp (zmH h.ok a) (zd9 h.mono)⟩
def and3(t u:TT3):TT3:=fun ρ Q=>t ρ fun k=>if k=true then u ρ Q else Q false
def or3(t u:TT3):TT3:=fun ρ Q=>t ρ fun k=>if k=true then Q true else u ρ Q
def not3(t:TT3):TT3:=fun ρ Q=>t ρ fun k=>Q (!k)
theorem ZP{t:TT3}(h:PT3 X H0 a t):PT3 X H0 (.UnaryOp .Not a pos) (not3 t):=
 ⟨fun ρ Q e c q=>h.mono ρ _ _ (fun k=>c _) q,PT.imp (zhD h.ok) fun σ H Q=>el5 fun b ρ G F q=>⟨b,ρ,G,F,q⟩⟩
theorem zbP{t:TT3}(h:PT3 X H0 a t):PW3 X H0 (.BoolOp .And [a] pos) t:=⟨h.mono,znr h.ok⟩
theorem zba{t:TT3}(h:PT3 X H0 a t):PW3 X H0 (.BoolOp .Or [a] pos) t:=⟨h.mono,zft h.ok⟩
theorem zbR{rest:List Expr}{t u:TT3}(h:PT3 X H0 a t)(h':PW3 X H0 (.BoolOp .And (b::rest) pos) u):PW3 X H0 (.BoolOp .And (a::b::rest) pos) (and3 t u):=
 ⟨fun ρ Q p j q=>h.mono ρ _ _ (fun k=>by cases k;exact j _;exact h'.mono ρ _ _ j) q,PW.imp (zlM h.ok h'.ok) fun σ H Q=>el5 fun e ρ G F q=>⟨e,ρ,G,F,h.mono ρ _ _ (fun k i g l c=>by
  cases k with
  | false=>exact i g l c
  | true=>exact⟨e,ρ,g,F.gr c,h'.mono ρ _ _ (fun k q o m n=>q o m (c.trans n)) i⟩) q⟩⟩
theorem zaQ{rest:List Expr}{t u:TT3}(h:PT3 X H0 a t)(h':PW3 X H0 (.BoolOp .Or (b::rest) pos) u):PW3 X H0 (.BoolOp .Or (a::b::rest) pos) (or3 t u):=
 ⟨fun ρ Q p j q=>h.mono ρ _ _ (fun k=>by cases k;exact h'.mono ρ _ _ j;exact j _) q,PW.imp (ze8 h.ok h'.ok) fun σ H Q=>el5 fun e ρ G F q=>⟨e,ρ,G,F,h.mono ρ _ _ (fun k i g l c=>by
  cases k with
  | true=>exact i g l c
  | false=>exact⟨e,ρ,g,F.gr c,h'.mono ρ _ _ (fun k q o m n=>q o m (c.trans n)) i⟩) q⟩⟩
theorem pw3{t:TT3}(h:PW3 X H0 e t):PT3 X H0 e t:=⟨h.mono,h.ok.pt⟩
def nil3:TA3:=fun _ Q=>Q []
def ZO(ta:TE3)(tr:TA3):TA3:=fun ρ Q=>ta ρ fun c=>tr ρ fun cs=>Q (c::cs)
theorem zb:PA3 X H0 [] nil3:=⟨fun ρ Q a h q=>h _ q,PA.imp zJ fun σ H Q=>el5 fun b ρ G F q=>q [] G H (Gr.refl F.sub) .nil⟩
theorem za{es:List Expr}{ta:TE3}{tr:TA3}(a:PE3 X H0 e ta)(b:PA3 X H0 es tr)(u:starEach (e::es) X.env=(false,eval e X.env)::starEach es X.env:=by rfl):PA3 X H0 (e::es) (ZO ta tr):=
 ⟨fun ρ Q w h q=>a.mono ρ _ _ (fun c=>b.mono ρ _ _ fun n=>h _) q,PA.imp (zn a.ok b.ok u) fun σ H Q=>el5 fun g ρ G F q=>
  ⟨g,ρ,G,F,a.mono ρ _ _ (fun c l v o y j r=>⟨g,ρ,o,F.gr j,b.mono ρ _ _ (fun n k z s m i p=>k _ s m (j.trans i) (.cons (r.gr i) p)) l⟩) q⟩⟩
def tup3(t:TA3):TE3:=fun ρ Q=>t ρ fun cs=>optP (shs cs) fun p=>p.2.length<=sizeLine/\Q (.sh p.1 (.tuple p.2))
theorem zZ{es:List Expr}{t:TA3}{x1}(h:PA3 X H0 es t):PE3 X H0 (.Tuple es x1 pos) (tup3 t):=
 ⟨fun ρ Q n m q=>h.mono ρ _ _ (fun j q=>by obtain⟨l,e,z,q⟩:=zb8 q;rw [e];exact⟨z,m _ q⟩) q,PE.imp (zbS h.ok) fun σ H Q=>el5 fun i ρ G F q=>⟨i,ρ,G,F,h.mono ρ _ _ (fun j c s u o a w=>by
  obtain⟨l,e,z,k⟩:=zb8 c;have r:=w.shs e;refine⟨by rw [r.length];exact z,fun p b=>k _ _ _ (a.trans (Gr.put a.sub b)) (.sh ⟨.tup (SqT.of zf) (rdvs_same (zx (a.sub.free b) _) r.rd),fun g=>.tup zf (rdns_mono (zx (a.sub.free b) _) (fun _ _ _ z=>z) (r.nw g))⟩)⟩) q⟩⟩
def lst3(t:TA3):TN3:=fun ρ Q=>t ρ fun cs=>optP (shs cs) fun p=>p.2.length<=sizeLine/\Q p.1 p.2
theorem jg{es:List Expr}{t:TA3}(h:PA3 X H0 es t):PN3 X H0 (.List es pos) (lst3 t):=
 ⟨fun ρ Q s o q=>h.mono ρ _ _ (fun j q=>by obtain⟨n,e,z,q⟩:=zb8 q;rw [e];exact⟨z,o _ _ q⟩) q,PE.imp (zbV h.ok) fun σ H Q=>el5 fun b ρ G F q=>⟨b,ρ,G,F,h.mono ρ _ _ (fun j a i l c m w=>by
  obtain⟨n,e,z,k⟩:=zb8 a;have r:=w.shs e;exact⟨by rw [r.length];exact z,fun p g=>k p i l c m g r⟩) q⟩⟩
abbrev C3:=List Cl->(Bool->D->Prop)->Prop
def zkS(K:Ybf)(H0:Hp)(r:C3):List V->Hp->VK->Prop:=fun xs H Q=>∃ G cs,Sub G H/\Vws K H0 G H xs cs/\r cs fun f d=>∀ v G' H',Gr G H G' H'->Rf K H0 G' f v d->Q v H'
structure CallOk(X:Cx)(f:Value)(r:C3):Prop where
 mono:∀ cs (Q Q':Bool->D->Prop),(∀ f c,Q f c->Q' f c)->r cs Q->r cs Q'
 ok:∀ H0,zM X f (zkS X.K H0 r)
theorem zM.imp{r r':List V->Hp->VK->Prop}(h:zM X f r)(i:∀ xs H Q,r' xs H Q->r xs H Q):zM X f r':=fun a s σ H xs b Q I c q=>h _ s σ H xs b Q I c (i _ _ _ q)
def cb3(r:C3)(t:TA3):TE3:=fun ρ Q=>t ρ fun cs=>r cs fun f d=>Q (.sh f d)
variable{x:Str}{T:String}
theorem zq{r:C3}{t:TA3}(i:CallOk X (.builtin id) r)(y:Gl X x)(u:X.mg x=none)(m:bootBuiltins x=some (.builtin id))(c:PA3 X H0 (e::es) t)(A:x≠"__name__":=by decide)(j:(x==("__debug__" : Str))=false:=by decide)
 (s:starEach (e::es) X.env=(false,eval e X.env)::starEach es X.env:=by rfl) (b:(backTo pos (starEach es X.env)).any (·.1)=false:=by rfl):PE3 X H0 (.Call (.Name x p) (e::es) [] pos) (cb3 r t):=
 ⟨fun ρ Q J h q=>c.mono ρ _ _ (fun a=>i.mono a _ _ fun f d=>h _) q,PE.imp (ZW (i.ok H0) y u m c.ok A j s b) fun σ H Q=>el5 fun B ρ G F q=>⟨B,ρ,G,F,c.mono ρ _ _ (fun a o I z E l w=>⟨z,a,l.sub,w,i.mono a _ _ (fun f d k v C n g r=>k v C n (l.trans g) (.sh r)) o⟩) q⟩⟩
theorem zj3{r:C3}{t:TA3}(i:CallOk X (.type T) r)(y:Gl X x)(u:X.mg x=none)(m:bootBuiltins x=some (.type T))(c:PA3 X H0 (e::es) t)(A:x≠"__name__":=by decide)(j:(x==("__debug__" : Str))=false:=by decide)
 (s:starEach (e::es) X.env=(false,eval e X.env)::starEach es X.env:=by rfl) (b:(backTo pos (starEach es X.env)).any (·.1)=false:=by rfl):PE3 X H0 (.Call (.Name x p) (e::es) [] pos) (cb3 r t):=
 ⟨fun ρ Q J h q=>c.mono ρ _ _ (fun a=>i.mono a _ _ fun f d=>h _) q,PE.imp (zhp (i.ok H0) y u m c.ok A j s b) fun σ H Q=>el5 fun B ρ G F q=>⟨B,ρ,G,F,c.mono ρ _ _ (fun a o I z E l w=>⟨z,a,l.sub,w,i.mono a _ _ (fun f d k v C n g r=>k v C n (l.trans g) (.sh r)) o⟩) q⟩⟩
abbrev Sp3:=List D->(Bool->D->Prop)->(Addr->Prop)->Prop
def spL(K:Ybf)(sp:Sp3):Sp:=fun vs H Q E=>∃ G ds,Sub G H/\RdVs K G vs ds/\sp ds (fun f d=>∀ v G' H',Gr G H G' H'->Rf K H G' f v d->Q v H') fun C=>∀ H',zh H H'->E (.ref C) none H'
theorem zgI(h:zt d=true)(r:RdV K G v d):RdV K G' v d:=by
 cases r with
 | non=>exact .non
 | bl b=>exact .bl b
 | int i=>exact .int i
 | str s=>exact .str s
 | lst _ _=>cases h
 | tup _ _=>cases h
structure Df3(P:Program)(w:World)(K:Ybf)(mg:Str->Option Value)(base:Heap)(k:Nat)(x:Str)(ps:List Str)(sp:Sp3):Prop where
 mono:∀ ds (Q Q':Bool->D->Prop) (E E':Addr->Prop),(∀ f d,Q f d->Q' f d)->(∀ d,E d->E' d)->sp ds Q E->sp ds Q' E'
 ok:Df P w K mg base k x ps (spL K sp)
def Za(sp:Sp3)(E:Addr->Prop)(t:TA3):TE3:=fun ρ Q=>t ρ fun cs=>cs.all Cl.dat=true/\sp (cs.map Cl.d) (fun f d=>((shs cs).isSome=true\/zt d=true)/\Q (.sh f d)) E
theorem zcr:∀ {cs:List Cl} {p:Bool×List D},shs cs=some p->cs.map Cl.d=p.2
 | [],_,e=>by cases e;rfl
 | .sh _ d :: r, ds, e => by
  unfold shs at e;cases q:shs r with
  | none=>simp_all
  | some a=>rw [q] at e;cases e;rw [Ya1,zcr q];rfl
 | .ow _ _::r,_,e=>by cases e
 | .tr _ _::r,_,e=>by cases e
 | .dt _::r,_,e=>by cases e
 | .dk _::r,_,e=>by cases e
 | .fd _::r,_,e=>by cases e
 | .tk _::r,_,e=>by cases e
 | .dm _ _::r,_,e=>by cases e
 | .ex _::r,_,e=>by cases e
theorem df3{k:Nat}{ps:List Str}{sp:Sp3}{E:XK}{E3:Addr->Prop}{t:TA3}(M:∀ C H',E3 C->zh H0 H'->E (.ref C) none H')(j:Df3 X.prog X.w X.K X.mg X.base k x ps sp)(S:Room k X.A)(O:Gl X x)(N:Passes (CXR X.prog X.w) X E)(m:PA3 X H0 (e::es) t)(n:(x==("__debug__" : Str))=false:=by decide)
 (L:starEach (e::es) X.env=(false,eval e X.env)::starEach es X.env:=by rfl) (l:(backTo pos (starEach es X.env)).any (·.1)=false:=by rfl):PE3 X H0 (.Call (.Name x p) (e::es) [] pos) (Za sp E3 t):=by
 refine⟨fun ρ Q W h q=>m.mono ρ _ _ (fun A ⟨o,q⟩=>⟨o,j.mono _ _ _ _ _ (fun f d ⟨a,b⟩=>⟨a,h _ b⟩) (fun _ z=>z) q⟩) q,PE.imp (jy j.ok S O N m.ok n L l) fun σ H Q=>el5 fun R ρ G F q=>⟨R,ρ,G,F,m.mono ρ _ _ (fun A ⟨o,u⟩ T B y i w=>?_) q⟩⟩
 show spL X.K sp _ y Q E
 rw [Yao];have J:=fun C c H' s=>M C H' c ((F.gr i).keep.trans s)
 cases hs:shs A with
 | some U=>
  refine⟨B,_,i.sub,by rw [zcr hs];exact(w.shs hs).rd,j.mono _ _ _ _ _ (fun f d ⟨_,k⟩ v K H' g r=>k v K H' (i.trans g) (.sh ⟨r.rd,fun P=>jV (Same.refl _) (fun _ _ _ z=>(F.gr i).keep.free z) (r.nw P)⟩)) J u⟩
 | none=>
  refine⟨_,_,zgP y,rdvs_cln (w.rds i.sub o),j.mono _ _ _ _ _ (fun f d ⟨s,k⟩ v K H' g r=>?_) J u⟩
  have I:=s.resolve_left (by grind)
  exact k v B H' (i.trans ⟨Same.refl _,g.h,i.sub.trans g.h,fun _ _ e=>.inl e⟩) (.sh (.sc I (zgI I r.rd)))
end
variable[LamW]
theorem ziR{d:D}(r:RdVs K G vs (d::ds)):∃ v us,vs=v::us/\RdV K G v d/\RdVs K G us ds:=by
 cases r with
 | cons a b=>exact⟨_,_,rfl,a,b⟩
theorem zmI(r:RdV K G v (.tuple ds)):∃ a xs,v=.ref a/\SqT K G a xs/\RdVs K G xs ds:=by
 cases r with
 | tup a b=>exact⟨_,_,rfl,a,b⟩
theorem zi8(r:RdV K G v (.list ds)):∃ a xs,v=.ref a/\SqL K G a xs/\RdVs K G xs ds:=by
 cases r with
 | lst a b=>exact⟨_,_,rfl,a,b⟩
theorem zm(w:Vw K H0 G H v (.sh f d)):Rf K H0 G f v d:=by
 cases w with
 | sh r=>exact r
theorem zj8(r:Rfs K H0 G f vs (d::ds)):∃ v us,vs=v::us/\Rf K H0 G f v d/\Rfs K H0 G f us ds:=by
 obtain⟨v,us,rfl,a,b⟩:=ziR r.rd;exact⟨v,us,rfl,⟨a,fun h=>by cases r.nw h with|cons x y=>exact x⟩,⟨b,fun h=>by cases r.nw h with|cons x y=>exact y⟩⟩
theorem Jr(r:Rf K H0 G f v (.tuple ds)):∃ a xs,v=.ref a/\SqT K G a xs/\Rfs K H0 G f xs ds:=by
 cases f with
 | false=>
  obtain⟨a,xs,rfl,h,b⟩:=zmI r.rd;exact⟨a,xs,rfl,h,b,fun h=>by cases h⟩
 | true=>
  have n:=r.nw rfl;cases n with
  | tup h b=>exact⟨_,_,rfl,SqT.of h,rdns_rd b,fun _=>b⟩
theorem JT(r:Rf K H0 G f v (.list ds)):∃ a xs,v=.ref a/\SqL K G a xs/\Rfs K H0 G f xs ds:=by
 cases f with
 | false=>
  obtain⟨a,xs,rfl,h,b⟩:=zi8 r.rd;exact⟨a,xs,rfl,h,b,fun h=>by cases h⟩
 | true=>
  have n:=r.nw rfl;cases n with
  | lst h _ b=>exact⟨_,_,rfl,SqL.of h,rdns_rd b,fun _=>b⟩
section
variable{c:Expr}{rest:List Stmt}
def next3:TS3:=fun A ρ=>A.nx ρ
def seq3(t u:TS3):TS3:=fun A ρ=>t { A with nx:=u A } ρ
theorem zw:PSs3 X H0 [] next3:=PSs.imp zez fun B σ H=>el7 fun a A ρ G F q L=>L.nx ρ σ G H F q
theorem zd{t u:TS3}(h:PS3 X H0 st t)(j:PSs3 X H0 rest u):PSs3 X H0 (st::rest) (seq3 t u):=PSs.imp (zL h j) fun B σ H=>el7 fun b A ρ G F q L=>
 ⟨b,_,ρ,G,F,q,⟨fun a c i l g e=>⟨b,A,a,i,g,e,L⟩,L.rt,L.bk,L.ct,L.rm⟩⟩
theorem ze{t:TS3}(a:PS3 X H0 st t):PSs3 X H0 [st] t:=jf a
def ZQ(te:TE3):TS3:=fun A ρ=>te ρ fun _=>A.nx ρ
theorem Z4{te:TE3}(a:PE3 X H0 e te)(j:swapsWith e none pos.line X.env=pure false:=by rfl):PS3 X H0 (.Expr e pos) (ZQ te):=PS.imp (j0 a.ok j) fun B σ H=>el7 fun b A ρ G F q L=>
 ⟨b,ρ,G,F,a.mono ρ _ _ (fun c q v i h g w=>L.nx ρ σ i h (F.gr g) q) q⟩
def ret3(te:TE3):TS3:=fun A ρ=>te ρ fun c=>asS c A.rt
theorem zu{te:TE3}(b:PE3 X H0 e te):PS3 X H0 (.Return (some e) pos) (ret3 te):=PS.imp (J4 b.ok) fun B σ H=>el7 fun i A ρ G F q L=>
 ⟨i,ρ,G,F,b.mono ρ _ _ (fun c a v l h g w=>by
  obtain⟨f,d,j,q⟩:=j6 a;subst j;exact L.rt f d v l h (F.gr g).gr0 (zm w) q) q⟩
def ifS3(t:TT3)(u v:TS3):TS3:=fun A ρ=>t ρ fun k=>if k=true then u A ρ else v A ρ
theorem s_if{xs ys:List Stmt}{t:TT3}{u v:TS3}(b:PT3 X H0 c t)(i:PSs3 X H0 xs u)(h:PSs3 X H0 ys v):PS3 X H0 (.If c xs ys pos) (ifS3 t u v):=PS.imp (zex b.ok i h) fun B σ H=>el7 fun a A ρ G F q L=>
 ⟨a,ρ,G,F,b.mono ρ _ _ (fun k q e j g=>by
  cases k with
  | true=>exact⟨a,A,ρ,e,F.gr g,q,L⟩
  | false=>exact⟨a,A,ρ,e,F.gr g,q,L⟩) q⟩
def set3(i:Nat)(te:TE3):TS3:=fun A ρ=>te ρ fun c=>asS c fun f d=>A.nx (ρ.set i (some (.sh f d)))
theorem zk{i:Nat}{x:Str}{te:TE3}{pos':Pos}(s:X.N.Nodup)(m:X.N[i]?=some x)(n:Loc X.env.scope x)(b:PE3 X H0 e te)(r:swapsWith e (some (.Name x pos')) pos.line X.env=pure false:=by rfl)
 (h:X.fn x=true\/X.env.scope.names.lookup x=some .local:=by first|exact .inl rfl|exact .inr rfl|assumption):PS3 X H0 (.Assign [.Name x pos'] e pos) (set3 i te):=PS.imp (jd s m n b.ok r h) fun B σ H=>el7 fun l A ρ G F q L=>
 ⟨l,ρ,G,F,b.mono ρ _ _ (fun c a v p j g w=>by
  obtain⟨f,d,o,q⟩:=j6 a;subst o;exact L.nx _ _ p j ((F.gr g).set (zm w)) q) q⟩
def own3(i:Nat)(tn:TN3):TS3:=fun A ρ=>tn ρ fun f ds=>A.nx (ρ.set i (some (.ow f ds)))
theorem jq{i:Nat}{x:Str}{tn:TN3}{pos':Pos}(p:X.N.Nodup)(h:X.N[i]?=some x)(j:Loc X.env.scope x)(a:PN3 X H0 e tn)(o:swapsWith e (some (.Name x pos')) pos.line X.env=pure false:=by rfl)
 (b:X.fn x=true\/X.env.scope.names.lookup x=some .local:=by first|exact .inl rfl|exact .inr rfl|assumption):PS3 X H0 (.Assign [.Name x pos'] e pos) (own3 i tn):=PS.imp (jd p h j a.ok o b) fun B σ H=>el7 fun c A ρ G F q L=>
 ⟨c,ρ,G,F,a.mono ρ _ _ (fun f v q l u n s g m r=>L.nx _ _ n _ ((F.gr g).own r m) q) q⟩
abbrev TG3:=Bool->D->Env3->(Env3->Prop)->Prop
abbrev TGs3:=Bool->List D->Env3->(Env3->Prop)->Prop
def zdu(K:Ybf)(H0:Hp)(g:TG3):TG:=fun v σ H Q=>∃ G0 ρ G f d,Fr3 K H0 G0 ρ σ G H/\Rf K H0 G f v d/\g f d ρ fun ρ'=>∀ σ' G' H',Fr3 K H0 G0 ρ' σ' G' H'->Same G G'->Gr G H G' H'->Q σ' H'
def zlH(K:Ybf)(H0:Hp)(g:TGs3):TGs:=fun vs σ H Q=>∃ G0 ρ G f ds,Fr3 K H0 G0 ρ σ G H/\Rfs K H0 G f vs ds/\g f ds ρ fun ρ'=>∀ σ' G' H',Fr3 K H0 G0 ρ' σ' G' H'->Same G G'->Gr G H G' H'->Q σ' H'
structure PG3(X:Cx)(H0:Hp)(tg:Expr)(g:TG3):Prop where
 mono:∀ f d ρ (Q Q':Env3->Prop),(∀ c,Q c->Q' c)->g f d ρ Q->g f d ρ Q'
 ok:PG X tg (zdu X.K H0 g)
structure PGs3(X:Cx)(H0:Hp)(tg:List Expr)(g:TGs3):Prop where
 mono:∀ f d ρ (Q Q':Env3->Prop),(∀ c,Q c->Q' c)->g f d ρ Q->g f d ρ Q'
 ok:PGs X tg (zlH X.K H0 g)
theorem PG.imp{t':TG}(h:PG X tg t)(i:∀ v σ H Q,t' v σ H Q->t v σ H Q):PG X tg t':=fun a s σ H v u Q I r q=>h _ s σ H v u Q I r (i _ _ _ _ q)
theorem PGs.imp{tg:List Expr}{t':TGs}(h:PGs X tg t)(i:∀ v σ H Q,t' v σ H Q->t v σ H Q):PGs X tg t':=fun a s σ H v u Q I r q=>h _ s σ H v u Q I r (i _ _ _ _ q)
def gn3(i:Nat):TG3:=fun f d ρ Q=>Q (ρ.set i (some (.sh (f||zt d) d)))
theorem zl{i:Nat}{x:Str}(e:X.N.Nodup)(b:X.N[i]?=some x)(c:Loc X.env.scope x)(a:X.fn x=true\/X.env.scope.names.lookup x=some .local:=by first|exact .inl rfl|exact .inr rfl|assumption):PG3 X H0 (.Name x pos) (gn3 i):=
 ⟨fun f d ρ Q j h q=>h _ q,PG.imp (jl e b c a) fun v σ H Q zz0 => by obtain ⟨g,ρ,G,f,d,F,r,q⟩ := zz0; exact q _ G H (F.set r.or) (Same.refl _) (Gr.refl F.sub)⟩
def gnil3:TGs3:=fun _ ds ρ Q=>nilP ds (Q ρ)
def ZE(t:TG3)(u:TGs3):TGs3:=fun f ds ρ Q=>J3 ds fun d r=>t f d ρ fun ρ'=>u f r ρ' Q
theorem jj:PGs3 X H0 [] gnil3:=
 ⟨fun f d ρ Q c h q=>by obtain⟨e,q⟩:=zfl q;subst e;exact h _ q,PGs.imp zbQ fun g σ H Q a=>by
  obtain⟨b,ρ,G,f,i,F,r,q⟩:=a;obtain⟨e,q⟩:=zfl q;subst e;cases r.rd;exact⟨rfl,q σ G H F (Same.refl _) (Gr.refl F.sub)⟩⟩
theorem zA{es:List Expr}{t:TG3}{u:TGs3}(g:PG3 X H0 e t)(c:PGs3 X H0 es u)(A:(assignEach (e::es) X.env).map (·.2)=assign e X.env::(assignEach es X.env).map (·.2):=by rfl):PGs3 X H0 (e::es) (ZE t u):=
 ⟨fun f d ρ Q O h q=>by obtain⟨x,r,e,q⟩:=zfL q;subst e;exact g.mono f x ρ _ _ (fun a=>c.mono f r a _ _ h) q,PGs.imp (JS g.ok c.ok A) fun M σ H Q i=>by
  obtain⟨l,ρ,G,f,N,F,r,q⟩:=i;obtain⟨x,y,e,q⟩:=zfL q;subst e;obtain⟨v,K,rfl,p,B⟩:=zj8 r;exact⟨v,K,rfl,l,ρ,G,f,x,F,p,g.mono f x ρ _ _ (fun a q E s L n j z=>⟨l,a,s,f,y,n,B.same j,c.mono f y a _ _ (fun J q b w C m o I=>q b w C m (j.trans o) (z.trans I)) q⟩) q⟩⟩
def Zl(n:Nat)(t:TGs3):TG3:=fun f d ρ Q=>asT d fun ds=>ds.length=n/\t f ds ρ Q
theorem jk{es:List Expr}{k:Nat}{t:TGs3}{n:Nat}(s:X.calm=true)(h:PGs3 X H0 es t)(u:(assignEach es X.env).length=n:=by rfl)(b:(assignEach es X.env).findIdx? (·.1)=none:=by rfl):PG3 X H0 (.Tuple es k pos) (Zl n t):=
 ⟨fun f d ρ Q w j q=>by obtain⟨i,e,l,c⟩:=Z3 q;subst e;exact⟨l,h.mono f i ρ _ _ j c⟩,PG.imp (zch s h.ok u b) fun v σ H Q g=>by
  obtain⟨o,ρ,G,f,d,F,r,q⟩:=g;obtain⟨i,e,l,c⟩:=Z3 q;subst e;obtain⟨a,p,rfl,j,m⟩:=Jr r;exact⟨a,p,rfl,F.sub.tup j,by rw [m.length];exact l,o,ρ,G,f,i,F,m,c⟩⟩
def asg3(te:TE3)(g:TG3):TS3:=fun A ρ=>te ρ fun c=>asS c fun f d=>g f d ρ A.nx
theorem zgf{tg:Expr}{te:TE3}{g:TG3}(j:PE3 X H0 e te)(l:PG3 X H0 tg g)(z:swapsWithSole [tg] e pos.line X.env=pure false:=by rfl)(s:swappedStores [tg] e X.env=pure none:=by rfl)
 (o:(assignEach [tg] X.env).map (·.2)=[assign tg X.env]:=by rfl):PS3 X H0 (.Assign [tg] e pos) (asg3 te g):=PS.imp (zcv j.ok l.ok z s o) fun B σ H=>el7 fun i A ρ G F q L=>
 ⟨i,ρ,G,F,j.mono ρ _ _ (fun c h v u C y w=>by
  obtain⟨f,d,p,q⟩:=j6 h;subst p;exact⟨i,ρ,u,f,d,F.gr y,zm w,l.mono f d ρ _ _ (fun b q a r n m _ _=>L.nx b a r n m q) q⟩) q⟩
theorem zcC{K:Ybf}{G0:Hp}{ρ : Env3}{σ : L2.St}{G H:Hp}{i:Nat}{f:Bool}{ds:List D}(F:Fr3 K H0 G0 ρ σ G H)(h:ρ[i]?=some (some (.ow f ds))):∃ l vs,σ[i]?=some (some (.ref l))/\H l=some (.lst vs)/\Rfs K H0 G f vs ds:=by
 obtain⟨v,b,a⟩:=F.slot i _ h;cases a with
 | ow c r n=>exact⟨_,_,b,c,r⟩
def app3(i:Nat)(te:TE3):TS3:=fun A ρ=>atO ρ[i]? fun f ds=>te ρ fun c=>asS c fun g d=>ds.length<sizeLine/\A.nx (ρ.set i (some (.ow (f&&g) (ds++[d]))))
theorem jF{i:Nat}{te:TE3}{x:Str}{np apos cpos:Pos}(O:X.N[i]?=some x)(p:Vis X.env.scope x)(h:PE3 X H0 e te)(N:(x==("__debug__" : Str))=false:=by decide)(a:(x==("__classdict__" : Str))=false:=by decide)
 (z:attributeBase (.Name x np) "append" X.env (eval (.Name x np) X.env)=eval (.Name x np) X.env:=by rfl)
 (C:((backTo cpos (starEach [e] X.env)).all (fun x=>!x.1)&&(backToKw cpos (keywordEach [] X.env)).all (fun x=>x.1.isSome)&&decide ([e].length+([]:List Keyword).length+(if([]:List Keyword).isEmpty then 0 else 1)<30))=true:=by rfl)
 (I:(apos.endLine==cpos.line)=true:=by rfl) (n:starEach [e] X.env=(false,eval e X.env)::starEach [] X.env:=by rfl) (u:(backTo cpos (starEach [] X.env)).any (·.1)=false:=by rfl)
 (K:swapsWith (.Call (.Attribute (.Name x np) "append" apos) [e] [] cpos) none pos.line X.env=pure false:=by rfl):PS3 X H0 (.Expr (.Call (.Attribute (.Name x np) "append" apos) [e] [] cpos) pos) (app3 i te):=by
 refine PS.imp (j0 (zde (z9 O p N a) (zn h.ok zJ n) z C I n u) K) fun B σ H b=>?_
 refine Hd fun k Y=>?_;obtain⟨E,A,ρ,G,F,q,L⟩:=b;obtain⟨f,Q,j,q⟩:=zfk q;obtain⟨l,y,o,m,r⟩:=zcC F j;apply Y;refine⟨_,o,zdO m,E,ρ,G,F,h.mono ρ _ _ (fun c q v S P g w=>?_) q⟩
 refine Hd fun k Y=>?_;obtain⟨R,d,J,M,s⟩:=j6 q;apply Y;subst J;exact⟨l,y,v,rfl,rfl,g.h.at m,by rw [r.length];exact M,L.nx _ _ _ _ ((F.gr g).change j o ((r.same g.g).snoc (zm w))) s⟩
def put3(i:Nat)(tk te:TE3):TS3:=fun A ρ=>atO ρ[i]? fun f ds=>te ρ fun c=>tk ρ fun k=>asS c fun g d=>asI k fun n=>∃ j,ixN ds.length n=some j/\A.nx (ρ.set i (some (.ow (f&&g) (ds.set j d))))
theorem zaX{i:Nat}{tk te:TE3}{x:Str}{np spos:Pos}{k:Expr}(W:X.N[i]?=some x)(w:Vis X.env.scope x)(o:PE3 X H0 k tk)(p:PE3 X H0 e te)(T:(x==("__debug__" : Str))=false:=by decide)(h:(x==("__classdict__" : Str))=false:=by decide)
 (O:swapsWithSole [.Subscript (.Name x np) k spos] e pos.line X.env=pure false:=by rfl) (S:swappedStores [.Subscript (.Name x np) k spos] e X.env=pure none:=by rfl)
 (b:(assignEach [.Subscript (.Name x np) k spos] X.env).map (·.2)=[assign (.Subscript (.Name x np) k spos) X.env]:=by rfl)
 (J:∀ v,assign (.Subscript (.Name x np) k spos) X.env v=(do
  let ov <-holding [v] (eval (.Name x np) X.env)
  let iv <-holding [v,ov] (eval k X.env)
  standAt spos
  holding [v,ov,iv] (setItem ov iv v)
  release [v,ov,iv] []):=by intro _;rfl):PS3 X H0 (.Assign [.Subscript (.Name x np) k spos] e pos) (put3 i tk te):=by
 refine PS.imp (zcv p.ok (zfA (z9 W w T h) o.ok za2 J) O S b) fun B σ H m=>?_
 obtain⟨u,A,ρ,G,F,q,L⟩:=m;obtain⟨f,ds,s,q⟩:=zfk q;refine⟨u,ρ,G,F,p.mono ρ _ _ (fun c y v E Y a M=>?_) q⟩
 obtain⟨l,C,b,N,r⟩:=zcC F s;refine⟨_,b,u,ρ,E,F.gr a,o.mono ρ _ _ (fun kc q Z G2 H2 g I=>?_) y⟩
 obtain⟨f',d,Q,R⟩:=j6 q;obtain⟨n,K,j,U,z⟩:=jG R;subst Q K;have P:=(zm I).rd;cases P;refine⟨l,C,n,j,rfl,rfl,g.h.at (a.h.at N),by rw [r.length];exact U,L.nx _ _ _ _ (((F.gr a).gr g).change s b ((r.same (a.g.trans g.g)).set ((zm M).same g.g) j)) z⟩
noncomputable def frz1(i:Nat)(ρ : Env3):Env3:=match ρ[i]? with
 | some (some (.ow f ds))=>ρ.set i (some (.sh f (.list ds)))
 | some (some (.tr _ ms))=>ρ.set i (some (.sh true (.list (ms.map XB))))
 | _=>ρ
noncomputable def frz:List Nat->Env3->Env3
 | [],ρ=>ρ
 | i::r,ρ=>frz r (frz1 i ρ)
theorem Fr3.frz1{K:Ybf}{G0:Hp}{ρ : Env3}{σ : L2.St}{G H:Hp}(F:Fr3 K H0 G0 ρ σ G H)(i:Nat):∃ G',Same G G'/\Fr3 K H0 G0 (L3.frz1 i ρ) σ G' H:=by
 unfold L3.frz1
 split
 . rename_i f b h;exact F.freeze h
 . rename_i c a h;exact F.freezeT h
 . exact⟨G,Same.refl _,F⟩
theorem Fr3.frz{K:Ybf}{G0:Hp}{σ : L2.St}{H:Hp}:∀ (is:List Nat) {ρ : Env3} {G:Hp},Fr3 K H0 G0 ρ σ G H->∃ G',Same G G'/\Fr3 K H0 G0 (L3.frz is ρ) σ G' H
 | [],ρ,G,F=>⟨G,Same.refl _,F⟩
 | i :: r, ρ, G, F => by
  obtain⟨h,e,b⟩:=F.frz1 i;obtain⟨c,g,a⟩:=Fr3.frz r b;exact⟨c,e.trans g,a⟩
def frzS(is:List Nat)(t:TS3):TS3:=fun A ρ=>t A (frz is ρ)
theorem jA(a:List Nat){t:TS3}(h:PS3 X H0 st t):PS3 X H0 st (frzS a t):=PS.imp h fun B σ H=>el7 fun b A ρ G F q L=>by
 obtain⟨c,g,e⟩:=F.frz a;exact⟨b,A,_,c,e,q,L⟩
def whN(c:TT3)(tb:TS3)(A:Ends3):Nat->Env3->Prop
 | 0,_=>False
 | n+1,ρ=>c ρ fun k=>if k=true then tb { A with nx:=whN c tb A n,ct:=whN c tb A n,bk:=A.nx } ρ else A.nx ρ
def zlp(c:TT3)(tb:TS3):TS3:=fun A ρ=>∃ n,whN c tb A n ρ
theorem zaJ{body:List Stmt}{tc:TT3}{tb:TS3}(z:PassesOwn (model X.prog X.w) X.A X.env X.xe)(y:PT3 X H0 c tc)(C:PSs3 X H0 body tb):PS3 X H0 (.While c body [] pos) (zlp tc tb):=PS.imp (zdl z y.ok C) fun B σ H o=>by
 obtain⟨i,A,ρ,G,F,⟨n,q⟩,L⟩:=o;refine⟨fun m b u=>∃ a r,Fr3 X.K H0 i a b r u/\whN tc tb A m a,⟨n,ρ,G,F,q⟩,?_⟩
 rintro m b u ⟨a,r,l,v⟩
 cases m with
 | zero=>exact v.elim
 | succ m=>
  refine⟨i,a,r,l,y.mono a _ _ (fun k q w J g=>?_) v⟩
  cases k with
  | false=>exact L.nx a b w J (l.gr g) q
  | true=>
   exact⟨_,fun I M E=>⟨m,WaV _,E⟩,
    i,_,a,w,l.gr g,q,⟨fun e h s K j p=>⟨e,s,j,p⟩,L.rt,L.nx,fun e h s K j p=>⟨e,s,j,p⟩,L.rm⟩⟩
structure ItOk(K:Ybf)(H0:Hp)(J:It)(fl:Bool)(ds:List D)(Gs:Hp):Prop where
 go:∀ (i:Nat) d G H,ds[i]?=some d->Same Gs G->Sub G H->J.go i H/\∀ x H',J.yld i H x H'->∃ G',Gr G H G' H'/\Rf K H0 G' fl x d
 stop:∀ (i:Nat) G H,i=ds.length->Same Gs G->Sub G H->J.stop i H
abbrev TI3:=Env3->(Bool->List D->Prop)->Prop
def zeb(K:Ybf)(H0:Hp)(t:TI3):TI:=fun σ H R=>∃ G0 ρ G,Fr3 K H0 G0 ρ σ G H/\t ρ fun f ds=>∀ J G' H',Gr G H G' H'->ItOk K H0 J f ds G'->R J H'
structure PI3(X:Cx)(H0:Hp)(tg iter:Expr)(t:TI3):Prop where
 mono:∀ ρ (Q Q':Bool->List D->Prop),(∀ f c,Q f c->Q' f c)->t ρ Q->t ρ Q'
 ok:PI X tg iter (zeb X.K H0 t)
def forL(g:TG3)(tb:TS3)(A:Ends3)(f:Bool):List D->Env3->Prop
 | [],ρ=>A.nx ρ
 | d::ds,ρ=>g f d ρ fun ρ'=>tb { A with nx:=forL g tb A f ds,ct:=forL g tb A f ds,bk:=A.nx } ρ'
def for3(ti:TI3)(g:TG3)(tb:TS3):TS3:=fun A ρ=>ti ρ fun f ds=>forL g tb A f ds ρ
theorem zy{tg iter:Expr}{body:List Stmt}{ti:TI3}{g:TG3}{tb:TS3}(hp:PassesOwn (model X.prog X.w) X.A X.env X.xe)(hc:X.calm=true)(O:PI3 X H0 tg iter ti)(P:PG3 X H0 tg g)(hb:PSs3 X H0 body tb)
 (W:∀ x,foldedSetIterable iter X.env x=pure x:=by intro _;rfl):PS3 X H0 (.For tg iter body [] pos) (for3 ti g tb):=PS.imp (ZR hp hc O.ok P.ok hb W) fun B σ H=>el7 fun Y A ρ G F q L=>by
 refine⟨Y,ρ,G,F,O.mono ρ _ _ (fun f I k J C H1 T R=>?_) q⟩
 have z:=F.gr T;refine⟨fun i m p u=>i<=I.length/\m=I.length - i/\∃ b w,Fr3 X.K H0 C b p w u/\forL g tb A f (I.drop i) b,⟨_,Wby _,rfl,ρ,C,z.rebase,k⟩,?_⟩
 intro i m p u ξ;refine Hd fun V ζ=>?_;obtain⟨K,rfl,b,w,s,E⟩:=ξ;apply ζ
 by_cases j:i<I.length
 . right
   have hd:=YaQ j;obtain⟨M,hy⟩:=R.go i _ w u hd s.g0 s.sub;rw [YM j] at E;refine⟨M,_,fun σ2 Q U=>⟨_,Yx j (WaV _),YS j,rfl,U⟩,fun x Q y=>?_⟩
   obtain⟨G2,g2,Z⟩:=hy x Q y;refine⟨C,b,G2,f,_,s.gr g2,Z,P.mono f _ b _ _ (fun N S σ3 G3 H3 F3 _ _=>⟨C,_,N,G3,F3,S,?_⟩) E⟩
   exact⟨fun a h l r o n=>⟨a,l,o,n⟩,fun f d v l r g4 r4 n=>L.rt f d v l r (g4.back z) r4 n,fun a h l r o n=>L.nx a h l r (o.back z) n,fun a h l r o n=>⟨a,l,o,n⟩,fun c v a h l r o w4 n4 n=>L.rm c v a h l r (o.back z) w4 n4 n⟩
 . left
   have e:=Wh K (Uh.mp j);rw [e,WT] at E;exact⟨R.stop i w u e s.g0 s.sub,L.nx b p w u (s.back z) E⟩
theorem PI.imp{t':TI}(h:PI X tg iter t)(i:∀ σ H R,t' σ H R->t σ H R):PI X tg iter t':=fun a s σ H R I q=>h _ s σ H R I (i _ _ _ q)
def itL(te:TE3):TI3:=fun ρ Q=>te ρ fun c=>asL c Q
def itT(te:TE3):TI3:=fun ρ Q=>te ρ fun c=>∃ f ds,c=.sh f (.tuple ds)/\Q f ds
theorem zic{K:Ybf}{H0 G:Hp}{a:Addr}{xs:List V}{f:Bool}{ds:List D}(g:SqL K G a xs)(r:Rfs K H0 G f xs ds):ItOk K H0 (Itl K a) f ds G where
 go:=fun i d j H n c b=>by
  obtain⟨x,h,l⟩:=r.get n;refine⟨⟨xs,x,(c.trans b.s).seq g,h⟩,fun y o ⟨e,m⟩=>?_⟩
  subst e;have:=m xs ((c.trans b.s).seq g);rw [h] at this;cases this;exact⟨j,Gr.refl b,l.same c⟩
 stop:=fun i j H p c b=>⟨xs,(c.trans b.s).seq g,by rw [r.length];simp_all⟩
theorem zmY{K:Ybf}{H0 G:Hp}{a:Addr}{xs:List V}{f:Bool}{ds:List D}(g:SqT K G a xs)(r:Rfs K H0 G f xs ds):ItOk K H0 (Itt K a) f ds G where
 go:=fun i d j H n c b=>by
  obtain⟨x,h,l⟩:=r.get n;refine⟨⟨xs,x,(c.trans b.s).tup g,h⟩,fun y o ⟨e,m⟩=>?_⟩
  subst e;have:=m xs ((c.trans b.s).tup g);rw [h] at this;cases this;exact⟨j,Gr.refl b,l.same c⟩
 stop:=fun i j H p c b=>⟨xs,(c.trans b.s).tup g,by rw [r.length];simp_all⟩
theorem zW{tg iter:Expr}{te:TE3}(h:PE3 X H0 iter te):PI3 X H0 tg iter (itL te):=
 ⟨fun ρ Q r b q=>h.mono ρ _ _ (fun c q=>by obtain⟨f,o,e,q⟩:=zgB q;subst e;exact b _ _ q) q,PI.imp (zbT h.ok) fun σ H R=>el5 fun l ρ G F q=>⟨l,ρ,G,F,h.mono ρ _ _ (fun c i v n j g w=>by
  obtain⟨f,o,e,k⟩:=zgB i;subst e;obtain⟨a,m,rfl,b,p⟩:=JT (zm w);exact⟨a,rfl,⟨m,g.sub.seq b⟩,k _ n j g (zic b p)⟩) q⟩⟩
theorem zjL{tg iter:Expr}{te:TE3}(h:PE3 X H0 iter te):PI3 X H0 tg iter (itT te):=
 ⟨fun ρ Q r b q=>h.mono ρ _ _ (fun c ⟨f,j,e,q⟩=>⟨f,j,e,b _ _ q⟩) q,PI.imp (zlU h.ok) fun σ H R=>el5 fun m ρ G F q=>⟨m,ρ,G,F,h.mono ρ _ _ (fun c i v o l g w=>by
  obtain⟨f,j,e,k⟩:=i;subst e;obtain⟨a,n,rfl,b,p⟩:=Jr (zm w);exact⟨a,rfl,⟨n,g.sub.tup b⟩,k _ o l g (zmY b p)⟩) q⟩⟩
noncomputable def nums(lo:Int)(n:Nat):List D:=(Xe n).map fun i=>.int (lo+(i:Nat))
theorem zek{K:Ybf}{H0 G:Hp}{lo:Int}{n:Nat}:ItOk K H0 (Itr lo n) true (nums lo n) G where
 go:=fun i d c H a j b=>by
  unfold nums at a;rw [Ya0] at a
  by_cases e:i<n
  . rw [Yy e] at a
    cases a;exact⟨e,fun x m ⟨h,g⟩=>by subst h g;exact⟨c,Gr.refl b,.sc rfl (.int _)⟩⟩
  simp_all
 stop:=fun i c H l j b=>by unfold nums at l;show n<=i;grind
theorem zv{i:Int}(r:RdV K G v (.int i)):v=.int i:=by cases r;rfl
theorem vws1{c:Cl}(w:Vws K H0 G H vs [c]):∃ v,vs=[v]/\Vw K H0 G H v c:=by
 cases w with
 | cons a b=>cases b;simp_all
theorem vws2{c:Cl}(w:Vws K H0 G H vs [c,d]):∃ v u,vs=[v,u]/\Vw K H0 G H v c/\Vw K H0 G H u d:=by
 cases w with
 | cons a b=>obtain⟨u,rfl,h⟩:=vws1 b;exact⟨_,_,rfl,a,h⟩
def rg1(t:TA3):TI3:=fun ρ Q=>t ρ fun cs=>∃ j,cs=[.sh true (.int j)]/\(-(2 ^ 62)<=j/\j<2 ^ 62)/\Q true (nums 0 j.toNat)
def rg2(t:TA3):TI3:=fun ρ Q=>t ρ fun cs=>∃ i j,cs=[.sh true (.int i),.sh true (.int j)]/\(-(2 ^ 62)<=i/\i<2 ^ 62/\-(2 ^ 62)<=j/\j<2 ^ 62)/\Q true (nums i (j - i).toNat)
theorem jh{tg a:Expr}{t:TA3}{p:Pos}(o:Gl X "range")(n:X.mg "range" = none)(h:PA3 X H0 [a] t)(u:starEach [a] X.env=[(false,eval a X.env)]:=by rfl):PI3 X H0 tg (.Call (.Name "range" p) [a] [] pos) (rg1 t):=
 ⟨fun ρ Q z y q=>h.mono ρ _ _ (fun c zz0 => by obtain ⟨j,e,b,q⟩ := zz0; exact ⟨j,e,b,y _ _ q⟩) q,PI.imp (zc3 o n h.ok u) fun σ H R=>el5 fun m ρ G F q=>⟨m,ρ,G,F,h.mono ρ _ _ (fun c i A s l g w=>by
  obtain⟨j,e,b,k⟩:=i;subst e;obtain⟨v,rfl,r⟩:=vws1 w;cases zv (zm r).rd;exact⟨j,rfl,b.1,b.2,k _ s l g zek⟩) q⟩⟩
theorem Z8{tg a b:Expr}{t:TA3}{p:Pos}(s:Gl X "range")(r:X.mg "range" = none)(h:PA3 X H0 [a,b] t)(B:starEach [a,b] X.env=[(false,eval a X.env),(false,eval b X.env)]:=by rfl)(m:starEach [b] X.env=[(false,eval b X.env)]:=by rfl):PI3 X H0 tg (.Call (.Name "range" p) [a,b] [] pos) (rg2 t):=
 ⟨fun ρ Q E C q=>h.mono ρ _ _ (fun c zz0 => by obtain ⟨i,j,e,b,q⟩ := zz0; exact ⟨i,j,e,b,C _ _ q⟩) q,PI.imp (zmE s r h.ok B m) fun σ H R=>el5 fun o ρ G F q=>⟨o,ρ,G,F,h.mono ρ _ _ (fun c l I A n g w=>by
  obtain⟨i,j,e,b,k⟩:=l;subst e;obtain⟨v,u,rfl,z,y⟩:=vws2 w;cases zv (zm z).rd;cases zv (zm y).rd;exact⟨i,j,rfl,b,k _ A n g zek⟩) q⟩⟩
end
variable[LamW]
noncomputable def cst3(n:Nat)(js:List Nat)(ρ : Env3):Env3:=Xb n none++js.map fun j=>(ρ[j]?).join
noncomputable def er(D:Addr)(H:Hp):Hp:=fun b=>if b=D then none else H b
theorem zaU{D:Addr}:er D H D=none:=by unfold er;rw [if_pos rfl]
theorem Je{D b:Addr}(h:b≠D):er D H b=H b:=by unfold er;rw [if_neg h]
theorem zlm{D b:Addr}{o:HO}(h:er D H b=some o):b≠D/\H b=some o:=by
 by_cases e:b=D
 . subst e;rw [zaU] at h;cases h
 . rw [Je e] at h;exact⟨e,h⟩
theorem zim{D:Addr}{o:HO}(h:H D=some o):upd (er D H) D o=H:=by
 funext b
 by_cases e:b=D
 . subst e;rw [zf,h]
 . rw [zc e,Je e]
theorem Gr.er{D:Addr}{G H G' H':Hp}(g:Gr G H G' H')(i:G' D=none)(c:∀ f,H' D≠some (.ext f)):Gr G (er D H) G' (er D H') where
 g:=g.g
 h:=fun b o e=>by
  obtain⟨n,e⟩:=zlm e;rw [Je n]
  rcases g.h b o e with z|⟨z,y,j,l,a⟩
  . exact .inl z
  . exact .inr ⟨z,y,j,by rw [Je n];exact l,by rw [Je (fun w=>by rw [w] at a;exact c _ a)];exact a⟩
 sub:=⟨fun b o e=>by
  rw [Je (je e i)];exact g.sub.s b o e,g.sub.cl⟩
 new:=fun b o e=>by
  rcases g.new b o e with q|q|q
  . exact .inl q
  . by_cases m:b=D
    . simp_all
    . exact .inr (.inl (by rw [Je m];exact q))
  simp_all
theorem JY{α : Type}{l:List (Option α)}{x:α}(h:(Xb n none++js.map fun j=>(l[j]?).join)[i]?=some (some x)):∃ j,n<=i/\js[i - n]?=some j/\l[j]?=some (some x):=by
 by_cases a:i<n
 . rw [Yab (by simp_all),Yad,if_pos a] at h
   cases h
 . rw [Yae (by simp_all),Ya0] at h
   grind
theorem zhX{α : Type}{l:List (Option α)}{x:α}(b:n<=i)(a:js[i - n]?=some j)(h:l[j]?=some (some x)):(Xb n none++js.map fun j=>(l[j]?).join)[i]?=some (some x):=by
 rw [Yae (by simp_all),Ybb,Ya0,a]
 simp [h]
theorem Rf.asideU(r:Rf K H0 G f v d)(b:G A=none):Rf K (upd H0 A (.lst ys)) G f v d:=⟨r.rd,fun h=>jV (Same.refl _) (fun a o e n=>by rw [zc (je e b)];exact n) (r.nw h)⟩
theorem Rf.asideD(r:Rf K (upd H0 A (.lst ys)) G f v d):Rf K H0 G f v d:=⟨r.rd,fun h=>jV (Same.refl _) (fun a o e n=>by
 have b:a≠A:=fun z=>by subst z;rw [zf] at n;cases n
 rw [zc b] at n;exact n) (r.nw h)⟩
theorem Rf.aside(r:Rf K (upd H0 A (.lst ys)) G f v d)(a:G A=none):Rf K (upd H0 A (.lst zs)) G f v d:=r.asideD.asideU a
theorem Rfs.asideU{v:List V}(r:Rfs K H0 G f v d)(b:G A=none):Rfs K (upd H0 A (.lst ys)) G f v d:=⟨r.rd,fun h=>rdns_mono (Same.refl _) (fun a o e n=>by rw [zc (je e b)];exact n) (r.nw h)⟩
theorem Rfs.aside{v:List V}(r:Rfs K (upd H0 A (.lst ys)) G f v d)(b:G A=none):Rfs K (upd H0 A (.lst zs)) G f v d:=⟨r.rd,fun h=>rdns_mono (Same.refl _) (fun a o e n=>by
 rw [zc (je e b)] at n ⊢;exact n) (r.nw h)⟩
theorem Dr.asideU{K:Ybf}{H0 G:Hp}{A:Addr}{ys:List V}{kvs:List (List Key×V)}{ds:List (List Key×PyData)}(r:Dr K H0 G kvs ds)(c:G A=none):Dr K (upd H0 A (.lst ys)) G kvs ds:=by
 induction r with
 | nil=>exact .nil
 | cons a b e=>exact .cons (a.asideU c) e
theorem Dr.aside{K:Ybf}{H0 G:Hp}{A:Addr}{ys zs:List V}{kvs:List (List Key×V)}{ds:List (List Key×PyData)}(r:Dr K (upd H0 A (.lst ys)) G kvs ds)(c:G A=none):Dr K (upd H0 A (.lst zs)) G kvs ds:=by
 induction r with
 | nil=>exact .nil
 | cons a b e=>exact .cons (a.aside c) e
theorem Vw.rebase(w:Vw K H0 G (upd H A (.lst [])) v c)(s:Sub G H)(i:H A=none):Vw K (upd H0 A (.lst [])) G (upd H A (.lst [])) v c:=by
 have e:=s.free i;cases w with
 | sh r=>exact .sh (r.asideU e)
 | ow h r n=>exact .ow h (r.asideU e) n
 | tr t=>
  refine .tr ⟨t.top,t.topG,t.nd,t.len,fun k p m l g=>?_⟩
  obtain⟨j,a,b,c⟩:=t.item k p m l g;exact⟨j,a,b,c.asideU e⟩
 | dt h r n=>exact .dt h (r.asideU e) n
 | dk h n=>exact .dk h n
 | fd h r k=>exact .fd h (r.asideU e) k
 | tk h=>exact .tk h
 | dm h n=>exact .dm h n
 | ex h=>exact .ex h
section
variable{D:Addr}
theorem Fr3.comp(F:Fr3 K H0 G0 ρ σ G H)(n:Nat){js:List Nat}(hj:js.Nodup)(s:H D=none):Fr3 K (upd H0 D (.lst [])) G (cst3 n js ρ) (cst n js σ) G (upd H D (.lst [])) where
 keep:=fun b o e=>by
  by_cases C:b=D
  . subst C;rw [zf] at e ⊢;exact .inl e
  . rw [zc C] at e ⊢
    rcases F.keep b o e with z|⟨z,y,l⟩
    . exact .inl z
    . exact .inr ⟨z,y,l.same (zx s _).x⟩
 sub:=F.sub.trans (zx s _).x
 old:=fun b o e=>.inl e
 g0:=Same.refl _
 slot:=fun i c e=>by
  obtain⟨j,A,r,p⟩:=JY e;obtain⟨v,E,u⟩:=F.slot j c p;exact⟨v,zhX A r E,(u.gr (Gr.apart F.sub s)).rebase F.sub s⟩
 mine:=fun i c v a e Z h=>by
  obtain⟨j,A,r,p⟩:=JY e;obtain⟨B,w,g,m⟩:=JY Z;rw [r] at g;cases g;obtain⟨⟨o,q,_⟩,_⟩:=(F.vw p m).has h;rw [zc (je q s)];exact F.mine j c v a p m h
 apart:=fun i k L Y S R a Q N M P X O=>by
  obtain⟨j,A,r,p⟩:=JY Q;obtain⟨B,w,g,m⟩:=JY N;obtain⟨j2,E,u,U⟩:=JY M;obtain⟨j3,h7,I,W⟩:=JY P;rw [r] at u;cases u;rw [g] at I;cases I;have e:=F.apart j B L Y S R a p m U W X O;subst e;have ei:i - n=k - n:=by
   obtain⟨a1,J⟩:=Ya8.mp r;obtain⟨a2,T⟩:=Ya8.mp g;exact(WaU hj).mp (J.trans T.symm)
  omega
 len:=by unfold cst3 cst;simp
theorem Fr3.aside{ys zs:List V}(F:Fr3 K (upd H0 D (.lst ys)) G0 ρ σ G H)(B:G0 D=none):Fr3 K (upd H0 D (.lst zs)) G0 ρ σ G (upd H D (.lst zs)):=by
 have A:=F.keep.at (b:=D) zf;have u:G D=none:=by
  cases e:G D with
  | none=>rfl
  | some o=>
   rcases F.old D o e with q|q|⟨Q,q⟩
   . rw [B] at q;cases q
   . rw [zf] at q;cases q
   . have:=F.sub.s _ _ e;rw [A,q] at this;cases this
 refine⟨fun b o e=>?_,⟨fun b o e=>by rw [zc (je e u)];exact F.sub.s b o e,F.sub.cl⟩,fun b o e=>?_,F.g0,fun i c e=>?_,fun i c v a e N h=>?_,F.apart,F.len⟩
 . by_cases j:b=D
   . subst j;rw [zf] at e ⊢;exact .inl e
   . rw [zc j] at e ⊢
     rcases F.keep b o (by rw [zc j];exact e) with z|⟨z,y,l⟩
     . exact .inl z
     . exact .inr ⟨z,y,l.upd j fun f q=>by rw [A] at q;cases q⟩
 . rcases F.old b o e with q|q|q
   . exact .inl q
   . by_cases j:b=D
     . subst j;rw [zf] at q;cases q
     . rw [zc j] at q;exact .inr (.inl (by rw [zc j];exact q))
   . exact .inr (.inr q)
 . obtain⟨v,s,w⟩:=F.slot i c e
   refine⟨v,s,?_⟩
   cases w with
   | sh r=>exact .sh (r.aside u)
   | ow h r n=>
    rename_i l E f J;have g:l≠D:=fun z=>by
     subst z;have:=F.mine i _ _ l e s rfl;rw [zf] at this;cases this
    exact .ow (by rw [zc g];exact h) (r.aside u) n
   | dt h r n=>
    rename_i l O J;have g:l≠D:=fun z=>by
     simp_all
    exact .dt (by rw [zc g];exact h) (r.aside u) n
   | dk h n=>
    rename_i l P;have g:l≠D:=fun z=>by
     subst z;have:=F.mine i _ _ l e s rfl;rw [zf] at this;cases this
    exact .dk (by rw [zc g];exact h) n
   | fd h r k=>exact .fd h (r.aside u) k
   | tk h=>exact .tk h
   | dm h n=>
    rename_i l P;have g:l≠D:=fun z=>by
     subst z
     simp_all
    exact .dm (by rw [zc g];exact h) n
   | tr t=>
    rename_i l M L;have g:∀ a,Has (.tr M L) (.ref l) a->a≠D:=fun a I z=>by
     subst z;have:=F.mine i _ _ a e s I;rw [zf] at this;cases this
    refine .tr ⟨by rw [zc (g l (.inl rfl))];exact t.top,t.topG,t.nd,t.len,fun k p m s w=>?_⟩
    obtain⟨E,a,b,c⟩:=t.item k p m s w;exact⟨E,by rw [zc (g p (.inr (Yah s)))];exact a,b,c.aside u⟩
   | ex h=>
    rename_i l C;have g:l≠D:=fun z=>by subst z;rw [A] at h;cases h
    exact .ex (by rw [zc g];exact h)
 . have q:=F.mine i c v a e N h
   have g:a≠D:=fun z=>by subst z;rw [zf] at q;cases q
   rw [zc g] at q ⊢;exact q
theorem Fr3.atD{ys:List V}(F:Fr3 K (upd H0 D (.lst ys)) G0 ρ σ G H)(a:G0 D=none):G D=none/\H D=some (.lst ys):=by
 refine⟨?_,F.keep.at zf⟩
 cases e:G D with
 | none=>rfl
 | some o=>
  rcases F.old D o e with q|q|⟨c,q⟩
  . grind
  . rw [zf] at q;cases q
  . have g:=F.sub.s _ _ e
    have b:=F.keep.at zf
    grind
end
structure PTs3(X:Cx)(H0:Hp)(es:List Expr)(t:TT3):Prop where
 mono:∀ ρ (Q Q':Bool->Prop),(∀ c,Q c->Q' c)->t ρ Q->t ρ Q'
 ok:PTs X es (Zq X.K H0 t)
def true3:TT3:=fun _ Q=>Q true
theorem jD:PTs3 X H0 [] true3:=⟨fun ρ Q b h q=>h _ q,fun a s σ H Q I=>el5 fun c ρ G F q=>zaE _ s σ H Q I (q G H (Gr.refl F.sub))⟩
theorem ziE{c:Expr}{t:TT3}(h:PT3 X H0 c t):PTs3 X H0 [c] t:=⟨h.mono,zd8 h.ok⟩
def j5(g:TG3)(tt:TT3)(te:TE3)(f:Bool):List D->Bool->List D->Env3->(Bool->List D->Prop)->Prop
 | [],fa,acc,_,Q=>Q fa acc
 | d::ds,fa,acc,ρ,Q=>g f d ρ fun ρ'=>tt ρ' fun k=>if k=true then te ρ' fun c=>asS c fun fy y=>j5 g tt te f ds (fa&&fy) (acc++[y]) ρ' Q else j5 g tt te f ds fa acc ρ' Q
def Jo(ti:TI3)(g:TG3)(tt:TT3)(te:TE3)(n:Nat)(js:List Nat):TN3:=fun ρ Q=>ti ρ fun f ds=>ds.length<=sizeLine/\j5 g tt te f ds true [] (cst3 n js ρ) Q
theorem zdE{g:TG3}{tt:TT3}{te:TE3}(j:∀ f d ρ (Q Q':Env3->Prop),(∀ c,Q c->Q' c)->g f d ρ Q->g f d ρ Q')(b:∀ ρ (Q Q':Bool->Prop),(∀ c,Q c->Q' c)->tt ρ Q->tt ρ Q')(i:∀ ρ (Q Q':Cl->Prop),(∀ c,Q c->Q' c)->te ρ Q->te ρ Q')
 {f:Bool} {Q Q':Bool->List D->Prop} (h:∀ f c,Q f c->Q' f c):∀ ds fa acc ρ,j5 g tt te f ds fa acc ρ Q->j5 g tt te f ds fa acc ρ Q'
 | [],fa,acc,ρ,q=>h _ _ q
 | d :: ds, fa, acc, ρ, q => j f d ρ _ _ (fun a => b a _ _ fun k => by
  cases k with
  | true=>exact i a _ _ fun c q=>by obtain⟨l,y,e,q⟩:=j6 q;subst e;exact zdE j b i h ds _ _ a q
  | false=>exact zdE j b i h ds fa acc a) q
theorem zdy(g:(tn++fn).Nodup)(i:js.map (fun j=>N[j]?)=fn.map some):js.Nodup:=by
 have c:(fn.map some).Nodup:=by
  have:=(WaK.mp g).2.1
  grind
 rw [<-i] at c;exact YX.of_map _ (fun a b h e=>h (by rw [e])) c
theorem zcZ{elt tg:Expr}{ifs:List Expr}{scope:Scope}{N:List Str}{g:TG3}{tt:TT3}{te:TE3}
 (h:∀ H0 s H fp cl,PG3 (X.comp scope N s H fp cl) H0 tg g/\PTs3 (X.comp scope N s H fp cl) H0 ifs tt/\PE3 (X.comp scope N s H fp cl) H0 elt te):∀ s H fp cl,PG (X.comp scope N s H fp cl) tg (fun v σ H Q=>∃ H0,zdu X.K H0 g v σ H Q)/\PTs (X.comp scope N s H fp cl) ifs (fun σ H Q=>∃ H0,Zq X.K H0 tt σ H Q)/\PE (X.comp scope N s H fp cl) elt (fun σ H Q=>∃ H0,jS X.K H0 te σ H Q):=fun s H fp cl=>
 ⟨fun a c σ b v u Q I r ⟨e,q⟩=>(h e s H fp cl).1.ok _ c σ b v u Q I r q,fun a c σ b Q I ⟨e,q⟩=>(h e s H fp cl).2.1.ok _ c σ b Q I q,fun a c σ b Q I ⟨e,q⟩=>(h e s H fp cl).2.2.ok _ c σ b Q I q⟩
theorem zd5{Y Y' Y'':Cx}{h1 h2 h3:Hp}{elt tg iter:Expr}{ifs:List Expr}{ti:TI3}{g:TG3}{tt:TT3}{te:TE3}{n:Nat}{js:List Nat}(S:js.Nodup)(hi:PI3 X H0 tg iter ti)(m1:PG3 Y h1 tg g)(m2:PTs3 Y' h2 ifs tt)(m3:PE3 Y'' h3 elt te) :
 ∀ σ H Q,zfb X.K H0 (Jo ti g tt te n js) σ H Q->zbY (zeb X.K H0 ti) (fun v σ H Q=>∃ H0,zdu X.K H0 g v σ H Q) (fun σ H Q=>∃ H0,Zq X.K H0 tt σ H Q) (fun σ H Q=>∃ H0,jS X.K H0 te σ H Q) n js σ H Q:=by
 rintro σ H Q ⟨G0,ρ,G,F,q⟩
 refine⟨G0,ρ,G,F,hi.mono ρ _ _ (fun U p ⟨hz,k⟩ J s H1 O ok A hA=>?_) q⟩
 have F1:=F.gr O;have K:s A=none:=O.sub.free hA;refine⟨fun i m l M w=>i<=p.length/\m=p.length - i/\l.length<=i/\∃ j u P I,Fr3 X.K (upd H0 A (.lst l)) s j M u w/\Rfs X.K H0 u P l I/\Gr s H1 u (er A w)/\j5 g tt te U (p.drop i) P I j _,
  ⟨p.length,Wby _,rfl,YaY _,cst3 n js ρ,s,true,[],F1.comp n S hA,.nil,?_,k⟩,?_⟩
 . have e:er A (upd H1 A (.lst []))=H1:=by
    funext b
    by_cases o:b=A
    . subst o;rw [zaU,hA]
    . rw [Je o,zc o]
   rw [e];exact Gr.refl O.sub
 intro i m l M w ξ;refine Hd fun V ζ=>?_;obtain⟨a0,rfl,E,j,u,P,I,B,Z,g2,N⟩:=ξ;apply ζ
 obtain⟨a4,W⟩:=B.atD K
 by_cases a:i<p.length
 . right
   have hd:=YaQ a;obtain⟨a3,hy⟩:=ok.go i _ u w hd B.g0 B.sub;rw [YM a] at N;refine⟨a3,fun x H3 y=>?_⟩
   obtain⟨G3,g3,r3⟩:=hy x H3 y;have F3:=B.gr g3;refine⟨upd H0 A (.lst l),s,j,G3,U,_,F3,r3.asideU (F3.atD K).1,m1.mono U _ j _ _ (fun h q4 σ4 G4 H4 F4 s4 g4=>?_) N⟩
   refine⟨upd H0 A (.lst l),s,h,G4,F4,m2.mono h _ _ (fun b q5 G5 H5 g5=>?_) q4⟩
   have R:=F4.gr g5;have r:=(g3.trans g4).trans g5;cases b with
   | true=>
    refine⟨upd H0 A (.lst l),s,h,G5,R,m3.mono h _ _ (fun c q6 v G6 H6 g6 w6=>?_) q5⟩
    obtain⟨fy,y,hc,q6⟩:=j6 q6;subst hc;have F6:=R.gr g6;obtain⟨T,L⟩:=F6.atD K;have C:=r.trans g6;refine⟨L,YaU (WaE E a) hz,p.length - (i+1),Yx a (WaV _),YS a,rfl,by rw [YaS,Xm];lia,h,G6,_,I++[y],F6.aside K,(Z.same C.g).snoc ((zm w6).asideD),?_,q6⟩
    have e:er A (upd H6 A (.lst (l++[v])))=er A H6:=by
     funext b
     by_cases o:b=A
     . subst o;rw [zaU,zaU]
     . rw [Je o,Je o,zc o]
    rw [e];exact g2.trans (C.er T fun f z=>by rw [L] at z;cases z)
   | false=>
    obtain⟨a1,a2⟩:=R.atD K;exact⟨p.length - (i+1),Yx a (WaV _),YS a,rfl,Nat.le_succ_of_le E,h,G5,P,I,R,Z.same r.g,g2.trans (r.er a1 fun f z=>by rw [a2] at z;cases z),q5⟩
 . left
   have e:i=p.length:=Wh a0 (Uh.mp a);rw [e,WT] at N;refine⟨ok.stop i u w e B.g0 B.sub,?_⟩;have k3:=N A l u (er A w) (O.trans g2) zaU Z;rw [zim W] at k3;exact k3
theorem jP{elt tg iter:Expr}{ifs:List Expr}{scope:Scope}{ti:TI3}{g:TG3}{tt:TT3}{te:TE3}(c b:List Str)(e:List Nat)(a:X.calm=true)(S:CompSc X.env.scope scope c b)(p:e.map (fun j=>X.N[j]?)=b.map some)(i:PI3 X H0 tg iter ti)
 (m:∀ H0 s H fp cl,PG3 (X.comp scope (c++b) s H fp cl) H0 tg g/\PTs3 (X.comp scope (c++b) s H fp cl) H0 ifs tt/\PE3 (X.comp scope (c++b) s H fp cl) H0 elt te)
 (v:∀ x,foldedSetIterable iter X.env x=pure x:=by intro _;rfl):PN3 X H0 (.ListComp elt [⟨tg,iter,ifs,0⟩] scope pos) (Jo ti g tt te c.length e):=by
 obtain⟨r,n,o⟩:=m H0 X.s₀ X.H₀ [] [];have l:=zdy S.nd p;refine⟨fun ρ Q w h q=>i.mono ρ _ _ (fun f u ⟨z,q⟩=>⟨z,zdE r.mono n.mono o.mono h u _ _ _ q⟩) q,?_⟩
 exact PE.imp (zaP c b e a S p i.ok (zcZ m) v) (zd5 l i r n o)
theorem zia{elt tg iter:Expr}{ifs:List Expr}{scope:Scope}{spos pos':Pos}{i:Nat}{x:Str}{ti:TI3}{g:TG3}{tt:TT3}{te:TE3}(N:X.N.Nodup)(h:X.N[i]?=some x)(w:Loc X.env.scope x)(b c:List Str)(e:List Nat)(a:X.calm=true)(S:CompSc X.env.scope scope b c)(u:e.map (fun j=>X.N[j]?)=c.map some)(m:PI3 X H0 tg iter ti)
 (o:∀ H0 s H fp cl,PG3 (X.comp scope (b++c) s H fp cl) H0 tg g/\PTs3 (X.comp scope (b++c) s H fp cl) H0 ifs tt/\PE3 (X.comp scope (b++c) s H fp cl) H0 elt te)
 (v:∀ x,foldedSetIterable iter X.env x=pure x:=by intro _;rfl)
 (p:swapsWith (.ListComp elt [⟨tg,iter,ifs,0⟩] scope pos) (some (.Name x pos')) spos.line X.env=pure true:=by rfl) (E:X.fn x=true\/X.env.scope.names.lookup x=some .local:=by first|exact .inl rfl|exact .inr rfl|assumption) :
 PS3 X H0 (.Assign [.Name x pos'] (.ListComp elt [⟨tg,iter,ifs,0⟩] scope pos) spos) (own3 i (Jo ti g tt te b.length e)):=by
 obtain⟨C,K,y⟩:=o H0 X.s₀ X.H₀ [] [];have n:=zdy S.nd u;have z:=jP (pos:=pos) b c e a S u m o v;refine PS.imp (zbv N h w b c e a S u m.ok (zcZ o) v p E) fun B σ H=>el7 fun I A ρ G F q L=>?_
 exact zd5 n m C K y σ H _ ⟨I,ρ,G,F,z.mono ρ _ _ (fun f Q q l P M O g J r=>L.nx _ _ M _ ((F.gr g).own r J) q) q⟩
theorem zcl{elt tg iter:Expr}{ifs:List Expr}{scope:Scope}{spos pos':Pos}{i:Nat}{x:Str}{ti:TI3}{g:TG3}{tt:TT3}{te:TE3}(N:X.N.Nodup)(m:X.N[i]?=some x)(C:Loc X.env.scope x)(b c:List Str)(e:List Nat)(a:X.calm=true)(S:CompSc X.env.scope scope b c)(w:e.map (fun j=>X.N[j]?)=c.map some)(n:PI3 X H0 tg iter ti)
 (p:∀ H0 s H fp cl,PG3 (X.comp scope (b++c) s H fp cl) H0 tg g/\PTs3 (X.comp scope (b++c) s H fp cl) H0 ifs tt/\PE3 (X.comp scope (b++c) s H fp cl) H0 elt te)
 (y:∀ x,foldedSetIterable iter X.env x=pure x:=by intro _;rfl)
 (v:swapsWith (.ListComp elt [⟨tg,iter,ifs,0⟩] scope pos) (some (.Name x pos')) spos.line X.env=pure true:=by rfl) (u:X.fn x=true\/X.env.scope.names.lookup x=some .local:=by first|exact .inl rfl|exact .inr rfl|assumption) :
 PS3 X H0 (.Assign [.Name x pos'] (.ListComp elt [⟨tg,iter,ifs,0⟩] scope pos) spos) (set3 i (nw3 (Jo ti g tt te b.length e))):=by
 obtain⟨J,M,E⟩:=p H0 X.s₀ X.H₀ [] [];have o:=zdy S.nd w;have I:=jP (pos:=pos) b c e a S w n p y;refine PS.imp (zbv N m C b c e a S w n.ok (zcZ p) y v u) fun B σ H=>el7 fun K A ρ G F q L=>?_
 refine zd5 o n J M E σ H _ ⟨K,ρ,G,F,I.mono ρ _ _ (fun f Q q l P R O g h r=>?_) q⟩
 refine L.nx _ _ _ _ ((F.gr (g.trans (Gr.put g.sub h))).set ?_) q
 exact⟨.lst (SqL.of zf) (rdvs_same (zx (g.sub.free h) _) r.rd),fun u=>.lst zf ((F.keep.trans g.h).free h) (rdns_mono (zx (g.sub.free h) _) (fun _ _ _ z=>z) (r.nw u))⟩
noncomputable def jR(N:List Str)(ds:List D):Env3:=ds.map (fun d=>some (.sh (zt d) d))++Xb (N.length - ds.length) none
theorem zf4{K:Ybf}{G H:Hp}{N:List Str}{vs:List V}{ds:List D}(s:Sub G H)(r:RdVs K G vs ds):Fr3 K H G (jR N ds) (start N vs) G H:=by
 have g:∀ (i:Nat) c,(jR N ds)[i]?=some (some c)->∃ d,ds[i]?=some d/\c=.sh (zt d) d:=fun i c e=>by
  unfold jR at e
  by_cases p:i<ds.length
  . rw [Yab (by simp_all)] at e
    simp_all
  . rw [Yae (by simp_all),Yad] at e
    grind
 refine⟨zh.refl _,s,fun b o e=>.inl e,Same.refl _,fun i c e=>?_,fun i c v a e _ h=>?_,fun i j c q v u a e _ _ _ h _=>?_,?_⟩
 . obtain⟨d,l,rfl⟩:=g i c e
   obtain⟨x,m,n⟩:=r.get l;refine⟨x,?_,.sh ⟨n,fun h=>za0 h n⟩⟩
   unfold L2.start;have p:=(Ya8.mp m).1;rw [Yab (by simp_all),Ya0,m];rfl
 . obtain⟨d,l,z⟩:=g i _ e;subst z;exact Xj h
 . obtain⟨d,l,z⟩:=g i _ e;subst z;exact Xj h
 . unfold jR L2.start;simp [r.length]
theorem fn3{P:Program}{w:World}{K:Ybf}{mg:Str->Option Value}{base:Heap}{x qual:Str}{st:Stmt}{f:Addr}{fd:FuncData}{N ps:List Str}{k:Nat}{sp:Sp3}(F:Fun K x qual st f fd)(S:FnScope N ps (zg st))(b:∀ ds Q E,sp ds Q E->ds.length=ps.length)
 (a:∀ (cdv:Value) (A:Around) (outer:List Env) (s:Shared) (H:Hp) (E:XK) (E3:Addr->Prop),(∀ C H',E3 C->zh H H'->E (.ref C) none H')->Room k (A.deeper (envOfC qual (zg st) s.heap.objs.size f cdv))->
  ∃ t,PSs3 (cxOf (CXR P w) P w K mg base N qual (zg st) f cdv A outer s H E) H (jN st) t/\∀ ds Q,sp ds Q E3->t { nx:=fun _=>Q true .none,rt:=Q } (jR N ds)):FnOk P w K mg base (CXR P w) (k+1) f fd ps (spL K sp):=by
 refine F.okR S (fun l H Q E h=>?_) (fun cdv A outer s H l Q E o h=>?_)
 . obtain⟨G,ds,_,r,h⟩:=h
   rw [r.length];exact b _ _ _ h
 . obtain⟨G,ds,n,r,h⟩:=h
   obtain⟨t,i,p⟩:=a cdv A outer s H E (fun C=>∀ H',zh H H'->E _ none H') (fun C H' e z=>e H' z) o
   refine⟨_,i,G,_,_,G,zf4 n r,p ds _ h,⟨fun ρ σ c H' m q=>q .non c H' m.gr0 (.sc rfl .non),fun f d v c H' g j q=>q v c H' g j,fun _ _ _ _ _ q=>q.elim,fun _ _ _ _ _ q=>q.elim,fun _ _ _ _ _ _ _ _ _ q=>q.elim⟩⟩
def Zy(C:Addr)(E:Addr->Prop)(t:TA3):TS3:=fun _ ρ=>t ρ fun cs=>cs.length<=sizeLine/\E C
theorem zgk(h:Vws K H0 G H vs cs):vs.length=cs.length:=by
 induction h with
 | nil=>rfl
 | cons _ _ a=>simp_all
theorem jo{X:Cx}{H0:Hp}{x:Str}{C:Addr}{e0:Expr}{t:TA3}{E:XK}{E3:Addr->Prop}{np cpos pos:Pos}(j:∀ C H',E3 C->zh H0 H'->E (.ref C) none H')(c:Flies X E)(n:X.calm=true)(m:Gl X x)(i:X.mg x=some (.ref C))(l:Xw X.K C bmVE "ValueError.__new__" = true)(b:PA3 X H0 [e0] t)
 (a:(x==("__debug__" : Str))=false:=by decide) (o:starEach [e0] X.env=[(false,eval e0 X.env)]:=by rfl):PS3 X H0 (.Raise (some (.Call (.Name x np) [e0] [] cpos)) none pos) (Zy C E3 t):=
 PS.imp (zkb c n m i l b.ok a o) fun B σ H=>el7 fun h A ρ G F q L=>⟨h,ρ,G,F,b.mono ρ _ _ (fun r ⟨z,e⟩ p s H' g w=>⟨by rw [zgk w];exact z,j C H' e (F.gr g).keep⟩) q⟩
variable[LamW]
theorem JM{i:Str}(r:RdV K G v (.str i)):v=.str i:=by cases r;rfl
theorem zg5(r:RdV K G v .none):v=.non:=by cases r;rfl
section
def add3:R3:=fun a b Q=>match a,b with
 | .sh _ (.int i),.sh _ (.int j)=>Q true (.int (i+j))
 | .sh _ (.str x),.sh _ (.str y)=>x.length+y.length<=sizeLine/\Q true (.str (x++y))
 | _,_=>False
def int3(C:Int->Int->Prop)(g:Int->Int->D):R3:=fun a b Q=>match a,b with
 | .sh _ (.int i),.sh _ (.int j)=>C i j/\Q true (g i j)
 | _,_=>False
def int0(g:Int->Int->D):R3:=fun a b Q=>match a,b with
 | .sh _ (.int i),.sh _ (.int j)=>Q true (g i j)
 | _,_=>False
theorem zU:OpOk X (binaryOp .Add) add3:=by
 refine⟨fun a b Q i h q=>?_,fun g=>OpR.imp (zdo.or zjl) fun x y H Q=>el3 fun G a b s e c q=>?_⟩
 . unfold add3 at *;split at q
   . exact h _ _ q
   . simp_all
   . exact q
 . unfold add3 at q;split at q
   . cases zv (zm e).rd;cases zv (zm c).rd
     exact .inl ⟨_,_,rfl,rfl,q _ G H (Gr.refl s) (.sc rfl (.int _))⟩
   . cases JM (zm e).rd;cases JM (zm c).rd
     exact .inr ⟨_,_,rfl,rfl,q.1,q.2 _ G H (Gr.refl s) (.sc rfl (.str _))⟩
   simp_all
theorem opI3{f:Value->Value->Sem Value}{C:Int->Int->Prop}{g:Int->Int->Int}(h:OpR X f (rI C fun i j=>.int (g i j))):OpOk X f (int3 C fun i j=>.int (g i j)):=by
 refine⟨fun a b Q m h q=>?_,fun l=>OpR.imp h fun x y H Q=>el3 fun G a b s e c q=>?_⟩
 . unfold int3 at *;split at q
   . grind
   . exact q
 . unfold int3 at q;split at q
   . cases zv (zm e).rd;cases zv (zm c).rd
     exact⟨_,_,rfl,rfl,q.1,q.2 _ G H (Gr.refl s) (.sc rfl (.int _))⟩
   simp_all
theorem zjc{f:Value->Value->Sem Value}{g:Int->Int->Int}(h:OpR X f (rI0 fun i j=>.int (g i j))):OpOk X f (int0 fun i j=>.int (g i j)):=by
 refine⟨fun a b Q m h q=>?_,fun l=>OpR.imp h fun x y H Q=>el3 fun G a b s e c q=>?_⟩
 . unfold int0 at *;split at q
   . exact h _ _ q
   . exact q
 . unfold int0 at q;split at q
   . cases zv (zm e).rd;cases zv (zm c).rd
     exact⟨_,_,rfl,rfl,q _ G H (Gr.refl s) (.sc rfl (.int _))⟩
   simp_all
theorem zbz{f:Value->Value->Sem Value}{g:Int->Int->Bool}(h:OpR X f (rI0 fun i j=>.bl (g i j))):OpOk X f (int0 fun i j=>.bool (g i j)):=by
 refine⟨fun a b Q m h q=>?_,fun l=>OpR.imp h fun x y H Q=>el3 fun G a b s e c q=>?_⟩
 . unfold int0 at *;split at q
   . exact h _ _ q
   . exact q
 . unfold int0 at q;split at q
   . cases zv (zm e).rd;cases zv (zm c).rd
     exact⟨_,_,rfl,rfl,q _ G H (Gr.refl s) (.sc rfl (.bl _))⟩
   simp_all
theorem jT:OpOk X (binaryOp .Sub) (int0 fun i j=>.int (i - j)):=zjc zaY
theorem zX:OpOk X (binaryOp .Mult) (int3 IntMulOk fun i j=>.int (i*j)):=opI3 zjq
theorem zK:OpOk X (binaryOp .FloorDiv) (int3 jY fun i j=>.int (i/j)):=opI3 zlW
theorem zS:OpOk X (binaryOp .Mod) (int3 (fun _ j=>0<j) fun i j=>.int (i%j)):=opI3 zku
theorem Jy:OpOk X (binaryOp .Pow) (int3 JU fun i j=>.int (i ^ j.toNat)):=opI3 znf
theorem Jh:OpOk X (compareOp .Lt) (int0 fun i j=>.bool (decide (i<j))):=zbz zeS
theorem Jp:OpOk X (compareOp .LtE) (int0 fun i j=>.bool (decide (i<=j))):=zbz zjV
theorem JB:OpOk X (compareOp .Gt) (int0 fun i j=>.bool (decide (j<i))):=zbz zng
theorem ze3:OpOk X (compareOp .GtE) (int0 fun i j=>.bool (decide (j<=i))):=zbz zkv
def neg3:U3:=fun a Q=>match a with
 | .sh _ (.int i)=>Q true (.int (-i))
 | _=>False
theorem UnR.imp{r r':V->Hp->VK->Prop}(h:UnR X f r)(i:∀ x H Q,r' x H Q->r x H Q):UnR X f r':=fun a s σ H x v Q I b q=>h _ s σ H x v Q I b (i _ _ _ q)
theorem zjx:UnOk X (unaryOp .USub) neg3:=by
 refine⟨fun a Q e h q=>?_,fun c=>UnR.imp zjO fun x H Q ⟨G,a,s,b,q⟩=>?_⟩
 . unfold neg3 at *;split at q
   . exact h _ _ q
   . exact q
 . unfold neg3 at q;split at q
   . cases zv (zm b).rd
     exact⟨_,rfl,q _ G H (Gr.refl s) (.sc rfl (.int _))⟩
   simp_all
def eqOk:D->D->Prop
 | .str _,.str _=>True
 | .int _,.int _=>True
 | d,e=>Xt d=true/\Xt e=true
noncomputable def eqv3:D->D->Bool
 | .str x,.str y=>decide (x=y)
 | .int x,.int y=>decide (x=y)
 | d,e=>XL d e
def eq3:R3:=fun a b Q=>a.dat=true/\b.dat=true/\eqOk a.d b.d/\Q true (.bool (eqv3 a.d b.d))
def ne3:R3:=fun a b Q=>a.dat=true/\b.dat=true/\eqOk a.d b.d/\Q true (.bool (!eqv3 a.d b.d))
theorem ze7{e:D}:(∃ x y,d=.str x/\e=.str y/\eqv3 d e=decide (V.str x=V.str y))\/(∃ x y,d=.int x/\e=.int y/\eqv3 d e=decide (V.int x=V.int y))\/(eqv3 d e=XL d e/\(eqOk d e->Xt d=true/\Xt e=true)):=by
 cases d<;>cases e<;>first
  | exact .inr (.inr ⟨rfl,fun h=>h⟩)
  | exact .inl ⟨_,_,rfl,rfl,by simp [eqv3]⟩
  | exact .inr (.inl ⟨_,_,rfl,rfl,by simp [eqv3]⟩)
theorem jn(r:X.A.units+64<cLine):OpOk X (compareOp .Eq) eq3:=by
 refine⟨fun a b Q B h ⟨x,y,z,q⟩=>⟨x,y,z,h _ _ q⟩,fun C=>OpR.imp (zfZ.or (zlY r)) fun x y H Q ξ=>?_⟩
 refine Hd fun ν ζ=>?_;obtain⟨G,a,b,s,u,A,w,v,o,q⟩:=ξ;apply ζ;have l:=u.rd s w;have g:=A.rd s v
 rcases ze7 (d:=a.d) (e:=b.d) with ⟨i,j,n,m,c⟩|⟨i,j,n,m,c⟩|⟨c,p⟩
 . rw [n] at l;rw [m] at g
   cases JM l;cases JM g
   exact .inl ⟨rfl,by rw [<-c];exact q _ G H (Gr.refl s) (.sc rfl (.bl _))⟩
 . rw [n] at l;rw [m] at g
   cases zv l;cases zv g
   exact .inl ⟨rfl,by rw [<-c];exact q _ G H (Gr.refl s) (.sc rfl (.bl _))⟩
 . exact .inr ⟨_,_,l,g,(p o).1,(p o).2,by rw [<-c];exact q _ G H (Gr.refl s) (.sc rfl (.bl _))⟩
theorem Jm(r:X.A.units+64<cLine):OpOk X (compareOp .NotEq) ne3:=by
 refine⟨fun a b Q B h ⟨x,y,z,q⟩=>⟨x,y,z,h _ _ q⟩,fun C=>OpR.imp (zge.or (zi7 r)) fun x y H Q ξ=>?_⟩
 refine Hd fun ν ζ=>?_;obtain⟨G,a,b,s,u,A,w,v,o,q⟩:=ξ;apply ζ;have l:=u.rd s w;have g:=A.rd s v
 rcases ze7 (d:=a.d) (e:=b.d) with ⟨i,j,n,m,c⟩|⟨i,j,n,m,c⟩|⟨c,p⟩
 . rw [n] at l;rw [m] at g
   cases JM l;cases JM g
   exact .inl ⟨rfl,by rw [<-c];exact q _ G H (Gr.refl s) (.sc rfl (.bl _))⟩
 . rw [n] at l;rw [m] at g
   cases zv l;cases zv g
   exact .inl ⟨rfl,by rw [<-c];exact q _ G H (Gr.refl s) (.sc rfl (.bl _))⟩
 . exact .inr ⟨_,_,l,g,(p o).1,(p o).2,by rw [<-c];exact q _ G H (Gr.refl s) (.sc rfl (.bl _))⟩
noncomputable def isNone:Cl->Bool
 | .sh _ .none=>true
 | _=>false
theorem zg2(w:Vw K H0 G H v c):decide (v=.non)=isNone c:=by
 cases w with
 | sh r=>cases r.rd<;>simp [isNone]
 | ow _ _ _=>simp [isNone]
 | tr _=>simp [isNone]
 | dt _ _ _=>simp [isNone]
 | dk _ _=>simp [isNone]
 | fd _ _ _=>simp [isNone]
 | tk _=>simp [isNone]
 | dm _ _=>simp [isNone]
 | ex _=>simp [isNone]
def isN3:R3:=fun a b Q=>b=.sh true .none/\Q true (.bool (isNone a))
def notN3:R3:=fun a b Q=>b=.sh true .none/\Q true (.bool (!isNone a))
theorem zh5:OpOk X (compareOp .Is) isN3:=⟨fun a b Q j h ⟨e,q⟩=>⟨e,h _ _ q⟩,fun l=>OpR.imp znJ fun x y H Q c=>by
 obtain⟨G,a,b,s,g,i,e,q⟩:=c;subst e;exact⟨zg5 (zm i).rd,by rw [zg2 g];exact q _ G H (Gr.refl s) (.sc rfl (.bl _))⟩⟩
theorem zbF:OpOk X (compareOp .IsNot) notN3:=⟨fun a b Q j h ⟨e,q⟩=>⟨e,h _ _ q⟩,fun l=>OpR.imp zmk fun x y H Q c=>by
 obtain⟨G,a,b,s,g,i,e,q⟩:=c;subst e;exact⟨zg5 (zm i).rd,by rw [zg2 g];exact q _ G H (Gr.refl s) (.sc rfl (.bl _))⟩⟩
noncomputable def ixD:D->Int->Option D
 | .list ds,i=>atI ds i
 | .tuple ds,i=>atI ds i
 | .str z,i=>if z.length<=sizeLine then(atI z.cps.toList i).map fun c=>.str ⟨#[c]⟩ else none
 | _,_=>none
def ix3:R3:=fun a b Q=>match b with
 | .sh _ (.int i)=>a.dat=true/\∃ d,ixD a.d i=some d/\Q (a.f||zt d) d
 | _=>False
theorem za3{i:Int}(r:Rfs K H0 G f vs ds)(h:atI ds i=some d):∃ v,atI vs i=some v/\Rf K H0 G f v d:=by
 unfold atI at *;rw [r.length];cases e:ixN _ i with
 | none=>simp_all
 | some j=>
  rw [e] at h;obtain⟨x,b,a⟩:=r.get (h)
  simp_all
theorem IxR.imp{r r':R2}(h:IxR X r)(i:∀ x y H Q,r' x y H Q->r x y H Q):IxR X r':=fun e f a s σ H x y v u Q I c b q z=>h e f _ s σ H x y v u Q I c b (i _ _ _ _ q) z
theorem zkx(C:Hp):IxR X (zbd X.K C ix3):=IxR.imp ziZ fun x y H Q=>el3 fun G a b s w I q=>by
 unfold ix3 at q;split at q
 . obtain⟨m,d,o,q⟩:=q
   rename_i i;cases zv (zm I).rd;cases w with
   | @sh J f E r=>
    cases E with
    | list A=>
     obtain⟨a,B,rfl,u,p⟩:=JT r;obtain⟨v,j,l⟩:=za3 p (o);exact .inl ⟨_,_,_,v,rfl,rfl,s.seq u,j,q v G H (Gr.refl s) l.or⟩
    | tuple A=>
     obtain⟨a,B,rfl,u,p⟩:=Jr r;obtain⟨v,j,l⟩:=za3 p (o);exact .inr (.inl ⟨_,_,_,v,rfl,rfl,s.tup u,j,q v G H (Gr.refl s) l.or⟩)
    | str z=>
     cases JM r.rd
     have g:(if z.length<=sizeLine then(atI _ i).map _ else none)=some d:=o
     split at g
     . rename_i F
       cases e:atI _ i with
       | none=>rw [e] at g;cases g
       | some c=>
        rw [e] at g;cases g;exact .inr (.inr ⟨z,i,c,rfl,rfl,F,e,q _ G H (Gr.refl s) (.sc rfl (.str _))⟩)
     grind
    | _=>cases o
   | ow h p n=>
    obtain⟨v,j,l⟩:=za3 p (o);exact .inl ⟨_,_,_,v,rfl,rfl,SqL.of h,j,q v G H (Gr.refl s) l.or⟩
   | tr h=>cases m
   | dt _ _ _=>cases m
   | dk _ _=>cases m
   | fd _ _ _=>cases m
   | tk h=>
    obtain⟨v,j,l⟩:=za3 (⟨zas _,fun _=>zbj _⟩) (o)
    exact .inr (.inl ⟨_,_,_,v,rfl,rfl,s.tup (SqT.of h),j,q v G H (Gr.refl s) l.or⟩)
   | dm _ _=>cases m
   | ex h=>cases m
 simp_all
theorem zgY:∀ a b (Q Q':Bool->D->Prop),(∀ f c,Q f c->Q' f c)->ix3 a b Q->ix3 a b Q':=fun a b Q Q' h q=>by
 unfold ix3 at *;split at q
 . grind
 . exact q
theorem at3{H0:Hp}{a b:Expr}{pos:Pos}{ta tb:TE3}(e:PE3 X H0 a ta)(c:PE3 X H0 b tb)(g:ZM b):PE3 X H0 (.Subscript a b pos) (o3 ix3 ta tb):=
 ⟨zbc zgY e.mono c.mono,PE.imp (jI (zkx H0) e.ok c.ok g) (zci zgY e.mono c.mono)⟩
abbrev TO3:=Env3->(Option Int->Prop)->Prop
def zjX(K:Ybf)(H0:Hp)(t:TO3):TO:=fun σ H Q=>∃ G0 ρ G,Fr3 K H0 G0 ρ σ G H/\t ρ fun o=>∀ G' H',Gr G H G' H'->Q o H'
structure PO3(X:Cx)(H0:Hp)(e:Option Expr)(t:TO3):Prop where
 mono:∀ ρ (Q Q':Option Int->Prop),(∀ c,Q c->Q' c)->t ρ Q->t ρ Q'
 ok:PO X e (zjX X.K H0 t)
theorem PO.imp{e:Option Expr}{t':TO}(h:PO X e t)(i:∀ σ H Q,t' σ H Q->t σ H Q):PO X e t':=fun a s σ H Q I q=>h _ s σ H Q I (i _ _ _ q)
def no3:TO3:=fun _ Q=>Q none
def zaj(t:TE3):TO3:=fun ρ Q=>t ρ fun c=>∃ i,c=.sh true (.int i)/\Q (some i)
variable{p2:Pos}
theorem zbN:PO3 X H0 none no3:=⟨fun ρ Q a h q=>h _ q,PO.imp zlK fun σ H Q=>el5 fun b ρ G F q=>q G H (Gr.refl F.sub)⟩
theorem zbn{e:Expr}{t:TE3}(h:PE3 X H0 e t):PO3 X H0 (some e) (zaj t):=⟨fun ρ Q n m q=>h.mono ρ _ _ (fun c ⟨i,e,q⟩=>⟨i,e,m _ q⟩) q,PO.imp (zkn h.ok) fun σ H Q=>el5 fun j ρ G F q=>⟨j,ρ,G,F,h.mono ρ _ _ (fun c a v l b g w=>by
 obtain⟨i,e,q⟩:=a;subst e;exact⟨i,zv (zm w).rd,q l b g⟩) q⟩⟩
noncomputable def cut{α : Type}(xs:List α)(lo hi:Option Int):List α:=(xs.drop (HT.sIx xs.length 0 lo)).take (HT.sIx xs.length xs.length hi - HT.sIx xs.length 0 lo)
def slL3(te:TE3)(tl th:TO3):TN3:=fun ρ Q=>te ρ fun c=>tl ρ fun l=>th ρ fun u=>match c with
 | .sh f (.list ds)=>Q (f||ds.all zt) (cut ds l u)
 | .ow f ds=>Q (f||ds.all zt) (cut ds l u)
 | _=>False
theorem zdX(r:Rfs K H0 G f vs ds)(lo a):Rfs K H0 G f (cutV vs lo a) (cut ds lo a):=by
 unfold cutV cut;rw [r.length];exact(r.drop _).take _
theorem zep{e:Expr}{lo hi:Option Expr}{te:TE3}{tl th:TO3}(b:PE3 X H0 e te)(s:PO3 X H0 lo tl)(i:PO3 X H0 hi th):PN3 X H0 (.Subscript e (.Slice lo hi none p2) pos) (slL3 te tl th):=by
 refine⟨fun ρ Q P h q=>b.mono ρ _ _ (fun c=>s.mono ρ _ _ fun l=>i.mono ρ _ _ fun u q=>?_) q,PE.imp (zeO zlS b.ok s.ok i.ok) fun σ H Q=>el5 fun o ρ G F q=>?_⟩
 . split at q
   . exact h _ _ q
   . exact h _ _ q
   . exact q
 . refine⟨o,ρ,G,F,b.mono ρ _ _ (fun c E v I O j K=>⟨o,ρ,I,F.gr j,s.mono ρ _ _ (fun l J L R r=>⟨o,ρ,L,F.gr (j.trans r),i.mono ρ _ _ (fun u w C B m=>?_) J⟩) E⟩) q⟩
   have A:=(K.gr r).gr m;have z:=(j.trans r).trans m
   split at w
   . obtain⟨a,N,rfl,M,y⟩:=JT (zm A)
     exact⟨a,N,rfl,m.sub.seq M,fun p g=>w p _ C B z g (zdX y.or _ _)⟩
   . cases A with
     | ow h y n=>exact⟨_,_,rfl,SqL.of h,fun p g=>w p _ C B z g (zdX y.or _ _)⟩
   simp_all
noncomputable def lenD:D->Option Nat
 | .list ds=>some ds.length
 | .tuple ds=>some ds.length
 | .str z=>if z.length<=sizeLine then some z.length else none
 | _=>none
def len3:C3:=fun cs Q=>match cs with
 | [c]=>c.dat=true/\∃ n,lenD c.d=some n/\Q true (.int n)
 | _=>False
theorem zH:CallOk X (.builtin "len") len3:=by
 refine⟨fun i Q o h q=>?_,fun u=>zM.imp (zM.or za9 zjS) fun p H Q=>el2 fun G i s w q=>?_⟩
 . unfold len3 at *;split at q
   . grind
   . exact q
 . unfold len3 at q;split at q
   . obtain⟨v,rfl,l⟩:=vws1 w
     obtain⟨j,n,a,q⟩:=q;have r:=l.rd s j;generalize e:Cl.d _=d at r a;cases r with
     | lst c g=>cases a;exact .inl ⟨_,_,rfl,.inl c,by rw [g.length];exact q _ G H (Gr.refl s) (.sc rfl (.int _))⟩
     | tup c g=>cases a;exact .inl ⟨_,_,rfl,.inr c,by rw [g.length];exact q _ G H (Gr.refl s) (.sc rfl (.int _))⟩
     | str z=>
      have b:(if z.length<=sizeLine then some _ else none)=some n:=a
      split at b
      . rename_i m;cases b;exact .inr ⟨z,rfl,m,q _ G H (Gr.refl s) (.sc rfl (.int _))⟩
      lia
     | _=>cases a
   simp_all
def abs3:C3:=fun cs Q=>match cs with
 | [.sh _ (.int i)]=>Q true (.int (if i<0 then -i else i))
 | _=>False
theorem zds:CallOk X (.builtin "abs") abs3:=by
 refine⟨fun b Q e h q=>?_,fun c=>zM.imp znc fun g H Q=>el2 fun G b s w q=>?_⟩
 . unfold abs3 at *;split at q
   . exact h _ _ q
   . exact q
 . unfold abs3 at q;split at q
   . obtain⟨v,rfl,a⟩:=vws1 w
     cases zv (zm a).rd
     exact⟨_,rfl,q _ G H (Gr.refl s) (.sc rfl (.int _))⟩
   simp_all
def max23:C3:=fun cs Q=>match cs with
 | [.sh _ (.int i),.sh _ (.int j)]=>Q true (.int (if j > i then j else i))
 | _=>False
theorem zgo(b:X.calm=true):CallOk X (.builtin "max") max23:=by
 refine⟨fun a Q g h q=>?_,fun j=>zM.imp (zmF b) fun i H Q=>el2 fun G a s w q=>?_⟩
 . unfold max23 at *;split at q
   . exact h _ _ q
   . exact q
 . unfold max23 at q;split at q
   . obtain⟨v,u,rfl,e,c⟩:=vws2 w
     cases zv (zm e).rd;cases zv (zm c).rd
     exact⟨_,_,rfl,q _ G H (Gr.refl s) (.sc rfl (.int _))⟩
   simp_all
def min23:C3:=fun cs Q=>match cs with
 | [.sh _ (.int i),.sh _ (.int j)]=>Q true (.int (if j<i then j else i))
 | _=>False
theorem zhc(b:X.calm=true):CallOk X (.builtin "min") min23:=by
 refine⟨fun a Q g h q=>?_,fun j=>zM.imp (zmZ b) fun i H Q=>el2 fun G a s w q=>?_⟩
 . unfold min23 at *;split at q
   . exact h _ _ q
   . exact q
 . unfold min23 at q;split at q
   . obtain⟨v,u,rfl,e,c⟩:=vws2 w
     cases zv (zm e).rd;cases zv (zm c).rd
     exact⟨_,_,rfl,q _ G H (Gr.refl s) (.sc rfl (.int _))⟩
   simp_all
end
end L3
variable{ds:List (List L2.Key×L3.D)}{es:Array W4}{xs:List (List L2.Key×Wn×Yv)}{cs:List L3.Cl}{ms:List (List L3.D)}{g:L3.TG3}{y:Xk}{body:Ug}{sp:L3.Sp3}
namespace L2
open PySem PySem.Spec PyProof.Rows
noncomputable def Itz(K:Ybf)(a b:Addr):It:=
 ⟨fun i H=>∃ xs ys x y,SqL K H a xs/\SqL K H b ys/\xs[i]?=some x/\ys[i]?=some y,
  fun i H v H'=>∃ p x y,H p=none/\v=.ref p/\H'=upd H p (.tup [x,y])/\∀ xs ys,SqL K H a xs->SqL K H b ys->xs[i]?=some x/\ys[i]?=some y,
  fun i H=>∃ xs ys,SqL K H a xs/\SqL K H b ys/\i=min xs.length ys.length⟩
theorem zhu{TI TO:Addr}(D:ZipApart z TI TO i1 i2 l1 l2) :
 Turn P w K (.Tuple elts k pos) (Itz K l1 l2) [z,TI,TO,i1,i2] z (fun i h=>IsZip h z TI TO .none/\IsPair h TI (.ref i1) (.ref i2)/\(∃ a b,IsPair h TO a b)/\h.IsListIter i1 l1 i/\h.IsListIter i2 l2 i) where
 mem:=by simp
 obj:=fun i h a4 c Z=>by
  obtain⟨F,l,⟨a,b,m⟩,⟨o1,e1,c1,d1⟩,⟨o2,e2,c2,d2⟩⟩:=a4;have r:=by simpa using Z
  rcases r with rfl|rfl|rfl|rfl|rfl
  . exact⟨_,F,fun v z=>by cases(show Data.fields _=Data.cell v from z)⟩
  . exact⟨_,l,fun v z=>by cases(show Data.seq _ _=Data.cell v from z)⟩
  . exact⟨_,m,fun v z=>by cases(show Data.seq _ _=Data.cell v from z)⟩
  . exact⟨o1,e1,fun v z=>by rw [d1] at z;cases z⟩
  . exact⟨o2,e2,fun v z=>by rw [d2] at z;cases z⟩
 keep:=fun i h h' zz0 R => by obtain ⟨F,l,⟨a,b,m⟩,L,G⟩ := zz0; exact ⟨R z (by simp) _ F,R TI (by simp) _ l,⟨a,b,R TO (by simp) _ m⟩,L.at fun o e=>R i1 (by simp) o e,G.at fun o e=>R i2 (by simp) o e⟩
 item:=by
  intro X hP hw hK Z i C s σ H E I hf st hg;subst hP hw hK;obtain⟨xs,ys,x,y,q1,q2,hx,hy⟩:=hg;obtain⟨g,r1,p1,_⟩:=I.list q1;obtain⟨j,r2,p2,_⟩:=I.list q2;obtain⟨u,hu,ru⟩:=r1.get hx;obtain⟨v,hv,rv⟩:=r2.get hy;have W:=WalksT.zip2 (prog:=X.prog) (w:=X.w) (I.ok.hd Z) z TI TO i1 i2 l1 l2 D g.toArray j.toArray;have hi:i<min g.toArray.size j.toArray.size:=by
   have a1:=(Ya8.mp hu).1;have a2:=(Ya8.mp hv).1;simp only [YaZ];lia
  obtain⟨F,l,m,L,G⟩:=st;have a6:∀ b∈[z,TI,TO,i1,i2],b<s.heap.objs.size:=fun b A=>by
   obtain⟨a,b',O⟩:=m;have r:=by simpa using A
   rcases r with rfl|rfl|rfl|rfl|rfl
   . exact YaX F
   . exact YaX l
   . exact YaX O
   . obtain⟨_,e,_⟩:=L;exact YaX e
   . obtain⟨_,e,_⟩:=G;exact YaX e
  refine W.item i s _ _ hi ⟨F,l,m,L,G,p1.isList,p2.isList⟩ fun T a8 a9 tk a3 J S Y kp=>?_
  obtain⟨u',v',a0,U,e⟩:=a3;subst e;have eu:u'=u:=by
   have:g[i]?=some u':=by simpa using a0
   rw [hu] at this;cases this;rfl
  have ev:v'=v:=by
   have:j[i]?=some v':=by simpa using U
   rw [hv] at this;cases this;rfl
  subst eu ev;refine⟨_,rfl,W.go elts k pos i T _ _ _ Y fun M B Q=>?_⟩
  have a7:∀ b∈[z,TO,i1,i2],b∈[z,TI,TO,i1,i2]:=fun b A=>by
   have r:b=z\/b=TO\/b=i1\/b=i2:=by simpa using A
   rcases r with rfl|rfl|rfl|rfl<;>simp
  have I1:Inv X C σ H { s with heap:=M,toks:=tk }:=I.turnedL (ch:=[z,TO,i1,i2]) (fun b o A e=>Q b o A (kp b o A e)) fun b A=>hf b (a7 b A)
  have N:H T=none:=I.hok.fresh J;obtain⟨o,ho,oc,on,od⟩:=S;have a5:=Q T o (W.apart i T _ Y) ho;have I2:Inv X C σ (upd H T (.tup [x,y])) { s with heap:=M,toks:=tk }:=I1.track N (Ya5 I.sz J) (Wbo (YaU I.lt J)) (fun n c e z=>by
   obtain⟨vv,q⟩:=I.cell n c e;exact absurd (YaU q.lt (by rw [z];exact J)) (Yap _)) (fun p hp z=>absurd (YaU (YaX (I.pin p hp).1) (by rw [z];exact J)) (Yap _))
   ⟨by show 2<=sizeLine;decide,[u',v'],.cons ru (.cons rv .nil),o,a5,oc,on,od⟩
  refine⟨.ref T,_,I2,rfl,⟨T,x,y,N,rfl,rfl,fun aa ab z1 z2=>?_⟩,⟨B.1,B.2.1,B.2.2.1,B.2.2.2.1,B.2.2.2.2.1⟩,fun b A=>?_⟩
  . rw [I.list_inj z1 q1,I.list_inj z2 q2];exact⟨hx,hy⟩
  . rw [zc (Yaf (YaU (a6 b A) J))];exact(hf b A).1
 done:=by
  intro X hP hw hK Z i C s σ H E I hf st hg;subst hP hw hK;obtain⟨xs,ys,q1,q2,hi⟩:=hg;obtain⟨g,r1,p1,_⟩:=I.list q1;obtain⟨j,r2,p2,_⟩:=I.list q2;have W:=WalksT.zip2 (prog:=X.prog) (w:=X.w) (I.ok.hd Z) z TI TO i1 i2 l1 l2 D g.toArray j.toArray;obtain⟨F,l,m,L,G⟩:=st;have ei:i=min g.toArray.size j.toArray.size:=by simp only [YaZ];rw [<-r1.length,<-r2.length];exact hi
  subst ei;refine W.done s _ _ ⟨F,l,m,L,G,p1.isList,p2.isList⟩ fun h' tk kp=>⟨rfl,?_⟩
  exact I.turnedL (ch:=[z,TO,i1,i2]) kp fun b A=>hf b (by
   have r:b=z\/b=TO\/b=i1\/b=i2:=by simpa using A
   rcases r with rfl|rfl|rfl|rfl<;>simp)
 self:=fun _ _ _ _ _ st h=>wpAny_pyIter_zip st.1 h
def iZip(K:Ybf)(ta:TA):TI:=fun σ H R=>ta σ H fun vs H1=>∃ a b,vs=[.ref a,.ref b]/\(∃ xs,SqL K H1 a xs)/\(∃ ys,SqL K H1 b ys)/\R (Itz K a b) H1
theorem zcI{a b:Expr}{p:Pos}(M:Gl X "zip")(K:X.mg "zip" = none)(O:PA X [a,b] ta)(hs:starEach [a,b] X.env=[(false,eval a X.env),(false,eval b X.env)]:=by rfl)
 (m:starEach [b] X.env=[(false,eval b X.env)]:=by rfl):PI X (.Tuple elts k tpos) (.Call (.Name "zip" p) [a,b] [] pos) (iZip X.K ta):=by
 intro F s σ H R I h;refine Call_ (Js I M K zm8 (Wad (thn (O pos _ s σ H _ I h) fun us i ⟨vs,J,c,N,T⟩=>?_) (by grind) (by rw [m];rfl)))
 obtain⟨P,G,e,⟨xs,L⟩,⟨ys,Y⟩,q⟩:=T;subst e;obtain⟨u,v,rfl,S,Z⟩:=zc6 N;cases(S);cases(Z);obtain⟨z,_,B,_⟩:=c.list L;obtain⟨A,_,E,_⟩:=c.list Y;have n:P<i.heap.objs.size:=by obtain⟨o,e,_⟩:=B.isList;exact YaX e
 have w:G<i.heap.objs.size:=by obtain⟨o,e,_⟩:=E.isList;exact YaX e
 refine call_zip_2 B.isList E.isList fun h' C y j l r U Q=>wpAny_pyIter_zip C ?_
 have W:=c.kept (t':=i.toks) Q;have D:=PySem.W.ktu_apart _ _ _ n w;refine⟨_,_,_,_,J,rfl,W,zhu D,⟨C,y,⟨_,_,j⟩,l,r⟩,fun b hb=>?_,q⟩
 have g:i.heap.objs.size<=b:=by
  grind
 have f:=c.fpOk g (c.hok.fresh g)
 grind
theorem zcP(h:IntsAre us ns):∃ xs:Array (Int×Tok),us.toArray=intItems xs/\xs.toList.map (·.1)=ns:=by
 obtain⟨xs,e⟩:=h.allInts.items;refine⟨xs,e,?_⟩;have a:=h.numsOf;have b:=by
  have:=congrArg WK e
  simpa [intItems] using this
 rw [b,numsOf_map] at a;exact a
theorem zhS(l:X.calm=true):zM X (.builtin "sum") (fun xs H Q=>∃ (p:Addr) (ns:List Int),xs=[.ref p]/\SqL X.K H p (ns.map V.int)/\Q (.int ns.sum) H):=by
 intro b s σ H xs z Q I r h;obtain⟨p,ns,rfl,v,q⟩:=h;obtain⟨u,rfl,j⟩:=Jl r;cases(j);obtain⟨e,o,c,_⟩:=I.list v;obtain⟨y,m,i⟩:=zcP (zaI o);have a:=c.isList;rw [m] at a;refine sum_intListG (I.ok.hd l) a fun w A n g=>⟨.int _,H,I.kept g,⟨n,?_⟩,q⟩
 rw [preSum_eq,Wao (by simp),i]
noncomputable def maxL:List Int->Int
 | []=>0
 | x::xs=>xs.foldl (fun a b=>if b > a then b else a) x
noncomputable def minL:List Int->Int
 | []=>0
 | x::xs=>xs.foldl (fun a b=>if b<a then b else a) x
theorem zf9{α β : Type}(f)(b:β)(l)(a:α):(l++[a]).foldl f b=f (l.foldl f b) a:=by simp_all
theorem zgX(a:List Int):∀ n,n<a.length->a.getD (argBest (fun i j=>decide (a.getD i 0 > a.getD j 0)) n) 0=maxL (a.take (n+1))
 | 0, h => by
  cases a with
  | nil=>simp at h
  | cons x b=>simp [argBest,maxL]
 | n + 1, h => by
  have c:=zgX a n #[0]
  have e:a.take (n+1+1)=a.take (n+1)++[a.getD (n+1) 0]:=by
   simp_all
  rw [e];cases q:a.take _ with
  | nil=>
   simp_all
  | cons x b=>
   rw [q] at c;have g:maxL (x::b++[a.getD (n+1) 0])=if a.getD (n+1) 0 > maxL (x::b) then a.getD (n+1) 0 else maxL (x::b):=by
    show(b++[a.getD _ 0]).foldl _ x=_
    rw [zf9];rfl
   rw [g,<-c];show a.getD (if decide _=true then n+1 else argBest _ n) 0=_
   omega
theorem zei(a:List Int):∀ n,n<a.length->a.getD (argBest (fun i j=>decide (a.getD i 0<a.getD j 0)) n) 0=minL (a.take (n+1))
 | 0, h => by
  cases a with
  | nil=>simp at h
  | cons x b=>simp [argBest,minL]
 | n + 1, h => by
  have c:=zei a n #[94]
  have e:a.take (n+1+1)=a.take (n+1)++[a.getD (n+1) 0]:=by
   simp_all
  rw [e];cases q:a.take _ with
  | nil=>
   simp_all
  | cons x b=>
   rw [q] at c;have g:minL (x::b++[a.getD (n+1) 0])=if a.getD (n+1) 0<minL (x::b) then a.getD (n+1) 0 else minL (x::b):=by
    show(b++[a.getD _ 0]).foldl _ x=_
    rw [zf9];rfl
   rw [g,<-c];show a.getD (if decide _=true then n+1 else argBest _ n) 0=_
   lia
theorem zcj{xs:Array (Int×Tok)}{ns:List Int}(e:xs.toList.map (·.1)=ns):numAt xs=fun i=>ns.getD i 0:=by
 subst e;unfold numAt
 simp_all
theorem zje(C:X.calm=true):zM X (.builtin "max") (fun xs H Q=>∃ (p:Addr) (ns:List Int),xs=[.ref p]/\ns≠[]/\SqL X.K H p (ns.map V.int)/\Q (.int (maxL ns)) H):=by
 intro l s σ H xs M Q I r h;obtain⟨p,ns,rfl,n,y,q⟩:=h;obtain⟨u,rfl,B⟩:=Jl r;cases(B);obtain⟨A,E,m,_⟩:=I.list y;obtain⟨g,o,e⟩:=zcP (zaI E);have j:=m.isList;rw [o] at j;have w:g.size=ns.length:=by grind
 have F:=List.length_pos_iff.mpr n;refine max_intList (I.ok.hd C) j #[0] fun v K J b z=>?_
 rw [zcj e,w] at b;have i:=zgX ns (ns.length - 1) #[0]
 rw [show ns.length - 1+1=ns.length by omega,YaH] at i
 generalize argBest _ _=k at b i;have c:∃ a t,v=.int a t/\ns.getD k 0=a:=by
  unfold intItems at b;rw [Array.getElem?_map] at b;cases ek:g[k]? with
  | none=>simp_all
  | some G=>
   rw [ek] at b;cases b;refine⟨_,_,rfl,?_⟩;have:=congrFun (zcj e) k;rw [<-this];unfold numAt;rw [ek];rfl
 obtain⟨a,t,rfl,L⟩:=c;exact⟨.int _,H,I.kept z,⟨t,#[0]⟩,q⟩
end L2
namespace L3
open PySem PySem.Spec PyProof.Rows L2
variable[LamW]
section
variable{p:Pos}
noncomputable def Jf:List D->Option (List Int)
 | []=>some []
 | .int i::r=>(Jf r).map (i :: ·)
 | _::_=>none
theorem jX(b):Jf (b.map .int)=some b:=by
 induction b with
 | nil=>rfl
 | cons a r c=>simp [Jf,c]
theorem zbp{ds:List D}(r:RdVs K G vs ds)(e:Jf ds=some ns):vs=ns.map V.int:=by
 induction vs generalizing ds ns with
 | nil=>cases r;cases e;rfl
 | cons v vs g=>
  cases r with
  | @cons _ _ d ds a b=>
   cases d with
   | int i=>
    have c:(Jf ds).map _=some ns:=e;cases q:Jf ds with
    | none=>simp_all
    | some h=>
     rw [q] at c;cases c;rw [Ya1,g b q,zv a]
   | _=>cases e
theorem zag{c:Cl}{ds:List D}(w:Vw K H0 G H v c)(s:Sub G H)(b:c.dat=true)(h:c.d=.list ds):∃ a vs,v=.ref a/\SqL K H a vs/\Rfs K H0 G c.f vs ds:=by
 cases w with
 | sh r=>
  have j:=h;subst j;obtain⟨a,l,rfl,i,g⟩:=JT r;exact⟨a,l,rfl,s.seq i,g⟩
 | ow e r n=>cases h;exact⟨_,_,rfl,SqL.of e,r⟩
 | tr e=>cases b
 | dt _ _ _=>cases b
 | dk _ _=>cases b
 | fd _ _ _=>cases b
 | tk _=>cases h
 | dm _ _=>cases b
 | ex e=>cases b
def sum3:C3:=fun cs Q=>match cs with
 | [c]=>c.dat=true/\∃ ds ns,c.d=.list ds/\Jf ds=some ns/\Q true (.int ns.sum)
 | _=>False
theorem JA(e:X.calm=true):CallOk X (.builtin "sum") sum3:=by
 refine⟨fun b Q o h q=>?_,fun u=>zM.imp (zhS e) fun r H Q=>el2 fun G b s w q=>?_⟩
 . unfold sum3 at *;split at q
   . grind
   . exact q
 . unfold sum3 at q;split at q
   . obtain⟨v,rfl,g⟩:=vws1 w
     obtain⟨a,y,i,c,j,q⟩:=q;obtain⟨l,p,rfl,m,n⟩:=zag g s a c;cases zbp n.rd j;exact⟨l,i,rfl,m,q _ G H (Gr.refl s) (.sc rfl (.int _))⟩
   simp_all
def max3:C3:=fun cs Q=>match cs with
 | [c]=>c.dat=true/\∃ ds ns,c.d=.list ds/\Jf ds=some ns/\ns≠[]/\Q true (.int (maxL ns))
 | _=>False
theorem zmU(e:X.calm=true):CallOk X (.builtin "max") max3:=by
 refine⟨fun b Q p h q=>?_,fun y=>zM.imp (zje e) fun u H Q=>el2 fun G b s w q=>?_⟩
 . unfold max3 at *;split at q
   . grind
   . exact q
 . unfold max3 at q;split at q
   . obtain⟨v,rfl,g⟩:=vws1 w
     refine Hd fun k O=>?_;obtain⟨a,z,i,c,m,j,q⟩:=q;obtain⟨l,r,rfl,n,o⟩:=zag g s a c;apply O;cases zbp o.rd m;exact⟨l,i,rfl,j,n,q _ G H (Gr.refl s) (.sc rfl (.int _))⟩
   simp_all
def zam(t:TA3):TN3:=fun ρ Q=>t ρ fun cs=>∃ c ds,cs=[c]/\c.dat=true/\(c.d=.list ds\/c.d=.tuple ds)/\Q (c.f||ds.all zt) ds
theorem zcV{x:Str}{es:List Expr}{t:TA3}(M:Gl X x)(L:X.mg x=none)(I:bootBuiltins x=some (.type "list"))(u:PA3 X H0 (e::es) t)(O:x≠"__name__":=by decide)(A:(x==("__debug__" : Str))=false:=by decide)
 (K:starEach (e::es) X.env=(false,eval e X.env)::starEach es X.env:=by rfl) (n:(backTo pos (starEach es X.env)).any (·.1)=false:=by rfl):PN3 X H0 (.Call (.Name x p) (e::es) [] pos) (zam t):=
 ⟨fun ρ Q S h q=>u.mono ρ _ _ (fun N zz0 => by obtain ⟨c,E,a,b,d,q⟩ := zz0; exact ⟨c,E,a,b,d,h _ _ q⟩) q,PE.imp (zhp zm6 M L I u.ok O A K n) fun σ H Q=>el5 fun P ρ G F q=>⟨P,ρ,G,F,u.mono ρ _ _ (fun N z R s o g w=>by
  obtain⟨c,E,a,b,d,k⟩:=z;subst a;obtain⟨v,rfl,C⟩:=vws1 w
  rcases d with d|d
  . obtain⟨l,m,rfl,y,B⟩:=zag C g.sub b d
    exact⟨l,m,rfl,.inl y,fun i j=>k i m s o g j B.or⟩
  . cases C with
    | sh r=>
     have J:=d;subst J;obtain⟨l,m,rfl,y,B⟩:=Jr r;exact⟨l,m,rfl,.inr (g.sub.tup y),fun i j=>k i m s o g j B.or⟩
    | ow _ _ _=>cases d
    | tr _=>cases d
    | dt _ _ _=>cases d
    | dk _ _=>cases d
    | fd _ _ _=>cases d
    | tk h=>
     cases d;exact⟨_,_,rfl,.inr (g.sub.tup (SqT.of h)),fun i j=>k i _ s o g j (⟨zas _,fun _=>zbj _⟩:Rfs _ _ _ true _ _).or⟩
    | dm _ _=>cases b
    | ex _=>cases b) q⟩⟩
noncomputable def zipD:List D->List D->List D
 | a::as,b::bs=>.tuple [a,b]::zipD as bs
 | _,_=>[]
theorem zec:∀ as bs,(zipD as bs).length=min as.length bs.length
 | [],_=>by simp [zipD]
 | _::_,[]=>by simp [zipD]
 | a::as,b::bs=>by simp [zipD,zec as bs]
theorem zgK:∀ {as bs:List D} {i:Nat} {d:D},(zipD as bs)[i]?=some d->∃ a b,d=.tuple [a,b]/\as[i]?=some a/\bs[i]?=some b
 | [],_,i,d,h=>by simp [zipD] at h
 | _::_,[],i,d,h=>by simp [zipD] at h
 | a::as,b::bs,0,d,h=>by cases h;exact⟨a,b,rfl,rfl,rfl⟩
 | a :: as, b :: bs, i + 1, d, h => by
  obtain⟨x,y,e,c,g⟩:=zgK (i:=i) (h);exact⟨x,y,e,c,g⟩
def itZ(t:TA3):TI3:=fun ρ Q=>t ρ fun cs=>∃ f g as bs,cs=[.sh f (.list as),.sh g (.list bs)]/\Q (f&&g) (zipD as bs)
theorem zkT{K:Ybf}{H0 G:Hp}{a b:Addr}{xs ys:List V}{f g:Bool}{as bs:List D}(r:SqL K G a xs)(w:Rfs K H0 G f xs as)(n:SqL K G b ys)(C:Rfs K H0 G g ys bs):ItOk K H0 (Itz K a b) (f&&g) (zipD as bs) G where
 go:=fun i d O H P c e=>by
  obtain⟨p,q,rfl,J,N⟩:=zgK P;obtain⟨x,u,E⟩:=w.get J;obtain⟨y,F,A⟩:=C.get N;have h:=c.trans e.s;refine⟨⟨xs,ys,x,y,h.seq r,h.seq n,u,F⟩,fun v Q ξ=>?_⟩
  refine Hd fun ν ζ=>?_;obtain⟨l,R,S,j,M,I,L⟩:=ξ;apply ζ;subst M I;obtain⟨B,s⟩:=L xs ys (h.seq r) (h.seq n);rw [u] at B;rw [F] at s;cases B;cases s;have m:=zx (e.free j) (.tup [x,y]);exact⟨_,Gr.put e j,⟨.tup (SqT.of zf) (.cons (zal (c.trans m) E.rd) (.cons (zal (c.trans m) A.rd) .nil)),fun o=>by
   rw [Yak] at o;exact .tup zf (.cons (jV (c.trans m) (fun _ _ _ z=>z) (E.nw o.1)) (.cons (jV (c.trans m) (fun _ _ _ z=>z) (A.nw o.2)) .nil))⟩⟩
 stop:=fun i O H j c e=>⟨xs,ys,(c.trans e.s).seq r,(c.trans e.s).seq n,by rw [j,zec,w.length,C.length]⟩
theorem zmi{elts:List Expr}{k:Nat}{tpos:Pos}{a b:Expr}{t:TA3}(z:Gl X "zip")(s:X.mg "zip" = none)(c:PA3 X H0 [a,b] t)(J:starEach [a,b] X.env=[(false,eval a X.env),(false,eval b X.env)]:=by rfl)
 (i:starEach [b] X.env=[(false,eval b X.env)]:=by rfl):PI3 X H0 (.Tuple elts k tpos) (.Call (.Name "zip" p) [a,b] [] pos) (itZ t):=
 ⟨fun ρ Q T h q=>c.mono ρ _ _ (fun B zz0 => by obtain ⟨f,g,n,m,e,q⟩ := zz0; exact ⟨f,g,n,m,e,h _ _ q⟩) q,PI.imp (zcI z s c.ok J i) fun σ H R=>el5 fun K ρ G F q=>⟨K,ρ,G,F,c.mono ρ _ _ (fun B j P N r g w=>by
  obtain⟨S,O,n,m,e,k⟩:=j;subst e;obtain⟨v,u,rfl,E,C⟩:=vws2 w;obtain⟨x,L,rfl,l,M⟩:=JT (zm E);obtain⟨y,A,rfl,o,I⟩:=JT (zm C);exact⟨x,y,rfl,⟨L,g.sub.seq l⟩,⟨A,g.sub.seq o⟩,k _ N r g (zkT l M o I)⟩) q⟩⟩
end
variable[LamW]
section
variable{ρ: Env3}
end
section
variable{p:Pos}{es:List Expr}{x:Str}
end
variable[LamW]
theorem jH:Passes (CXR P w) X (fun _ _ _=>False):=fun _ _ _ _ _ _ _ zz0 => by obtain ⟨_,_,_,_,_,h⟩ := zz0; exact h.elim
section
variable{x:Str}
theorem g3i{i:Int}(b:Gl X x)(a:∃ t,X.mg x=some (.int i t))(c:(x==("__debug__" : Str))=false:=by decide):PE3 X H0 (.Name x pos) (k3 (.int i)):=by
 obtain⟨t,a⟩:=a;exact g3 (v:=.int i) b a ⟨t,rfl⟩ (fun _=>.int i) rfl c
theorem g3s{i:Str}(b:Gl X x)(a:∃ t,X.mg x=some (.str i t))(c:(x==("__debug__" : Str))=false:=by decide):PE3 X H0 (.Name x pos) (k3 (.str i)):=by
 obtain⟨t,a⟩:=a;exact g3 (v:=.str i) b a ⟨t,rfl⟩ (fun _=>.str i) rfl c
end
theorem sz(h:n<=1000000):n<=sizeLine:=Ya5 h #[1]
theorem sz0:(0<=sizeLine)=True:=eq_true #[1]
theorem sz1:(1<=sizeLine)=True:=eq_true #[1]
theorem sz2:(2<=sizeLine)=True:=eq_true #[1]
theorem sz3:(3<=sizeLine)=True:=eq_true #[1]
theorem sz4:(4<=sizeLine)=True:=eq_true #[1]
theorem zdd{K:Ybf}{H:Hp}:∀ ns:List Int,RdVs K H (ns.map V.int) (ns.map Xa)
 | []=>.nil
 | a::r=>.cons (.int a) (zdd r)
theorem zaB{g:TG3}{tb:TS3}{A:Ends3}{f:Bool}(P:List D->Env3->Prop)(s:∀ d ds ρ,P (d::ds) ρ->∀ W:Env3->Prop,(∀ ρ',P ds ρ'->W ρ')->g f d ρ fun ρ'=>tb { A with nx:=W,ct:=W,bk:=A.nx } ρ')(e:∀ ρ,P [] ρ->A.nx ρ):∀ ds ρ,P ds ρ->forL g tb A f ds ρ
 | [],ρ,h=>e ρ h
 | d::ds,ρ,h=>s d ds ρ h _ fun ρ' p=>zaB P s e ds ρ' p
theorem zj{a b:TS3}{A:Ends3}(h:∀ N:Env3->Prop,(∀ ρ',b A ρ'->N ρ')->a { A with nx:=N } ρ):seq3 a b A ρ:=h (b A) fun _ z=>z
theorem z5{a b:TS3}{A:Ends3}(M:Env3->Prop)(c:∀ N:Env3->Prop,(∀ ρ',M ρ'->N ρ')->a { A with nx:=N } ρ)(e:∀ ρ',M ρ'->b A ρ'):seq3 a b A ρ:=c (b A) e
theorem zbG{c:TT3}{t u:TS3}{A:Ends3}(h:∀ Y N:Prop,(t A ρ->Y)->(u A ρ->N)->c ρ fun k=>if k=true then Y else N):ifS3 c t u A ρ:=h _ _ id id
theorem ZN{c:TT3}{tb:TS3}{A:Ends3}(P:Nat->Env3->Prop)(h:∀ n ρ,P n ρ->∀ W:Env3->Prop,(∀ m ρ',m<n->P m ρ'->W ρ')->c ρ fun k=>if k=true then tb { A with nx:=W,ct:=W,bk:=A.nx } ρ else A.nx ρ):∀ n ρ,P n ρ->whN c tb A (n+1) ρ
 | n, ρ, p => by
  have j:∀ k m ρ,m<=k->P m ρ->whN c tb A (k+1) ρ:=by
   intro k
   induction k with
   | zero=>intro m ρ g p;exact h m ρ p _ (fun b ρ' a _=>absurd a #[94])
   | succ k i=>intro m ρ g p;exact h m ρ p _ (fun b ρ' a e=>i b ρ' #[94] e)
  grind
variable[LamW]
theorem jt{α : Type}{g:TG3}{tt:TT3}{te:TE3}{f:Bool}(b a:α->D)(R:Env3->Prop):∀ (xs:List α),(∀ x∈xs,∀ ρ fa acc (K:Bool->List D->Env3->Prop),R ρ->(∀ ρ',R ρ'->K fa (acc++[a x]) ρ')->
 g f (b x) ρ fun ρ'=>tt ρ' fun k=>if k=true then te ρ' fun c=>asS c fun fy y=>K (fa&&fy) (acc++[y]) ρ' else K fa acc ρ')->∀ fa acc ρ (Q:Bool->List D->Prop),R ρ->Q fa (acc++xs.map a)->j5 g tt te f (xs.map b) fa acc ρ Q
 | [],_,fa,acc,ρ,Q,_,q=>by show Q fa acc;simpa using q
 | x::xs,s,fa,acc,ρ,Q,hR,q=>s x YaV ρ fa acc (fun fa acc ρ'=>j5 g tt te f _ fa acc ρ' Q) hR fun ρ' e=>
  jt b a R xs (fun y h=>s y (YaT _ h)) fa _ ρ' Q e (by simp_all)
theorem zeN{α : Type}{g:TG3}{tt:TT3}{te:TE3}{f:Bool}(e b:α->D)(a:α->Bool)(R:Env3->Prop):∀ (xs:List α),(∀ x∈xs,∀ ρ fa acc (K:Bool->List D->Env3->Prop),R ρ->(∀ ρ',R ρ'->K fa (if a x=true then acc++[b x] else acc) ρ')->
 g f (e x) ρ fun ρ'=>tt ρ' fun k=>if k=true then te ρ' fun c=>asS c fun fy y=>K (fa&&fy) (acc++[y]) ρ' else K fa acc ρ')->∀ fa acc ρ (Q:Bool->List D->Prop),R ρ->Q fa (acc++(xs.filter a).map b)->j5 g tt te f (xs.map e) fa acc ρ Q
 | [],_,fa,acc,ρ,Q,_,q=>by show Q fa acc;simpa using q
 | x::xs,s,fa,acc,ρ,Q,hR,q=>s x YaV ρ fa acc (fun fa acc ρ'=>j5 g tt te f _ fa acc ρ' Q) hR fun ρ' h=>
  zeN e b a R xs (fun y i=>s y (YaT _ i)) fa _ ρ' Q h (by
   grind)
theorem zg9{α β : Type}(a:α->D)(b:β->D):∀ (xs:List α) (ys:List β),zipD (xs.map a) (ys.map b)=(xs.zip ys).map fun p=>.tuple [a p.1,b p.2]
 | [],_=>by simp [zipD]
 | _::_,[]=>by simp [zipD]
 | x::xs,y::ys=>by simp [zipD,zg9 a b xs ys]
theorem Z9(e:α->β)(xs)(i):atI (xs.map e) i=(atI xs i).map e:=by
 unfold atI;rw [YaR];cases ixN _ i with
 | none=>rfl
 | some j=>simp
end L3
namespace L3
theorem zjF(lo)(n):nums lo (n+1)=.int lo::nums (lo+1) n:=by
 unfold nums;rw [Wa,Ya1,YaD]
 congr 1
 . simp
 . apply Yat
   grind
theorem ja{tb:TS3}{A:Ends3}(P:Nat->Env3->Prop)(s:∀ k ρ,k<n->P k ρ->∀ W:Env3->Prop,(∀ ρ',P (k+1) ρ'->W ρ')->g f (.int (lo+k)) ρ fun ρ'=>tb { A with nx:=W,ct:=W,bk:=A.nx } ρ')(e:∀ ρ,P n ρ->A.nx ρ)(h:P 0 ρ):forL g tb A f (nums lo n) ρ:=by
 have a:∀ m k ρ,k+m=n->P k ρ->forL g tb A f (nums (lo+k) m) ρ:=by
  intro m
  induction m with
  | zero => intro k ρ b p; have : k = n := by lia
            subst this;exact e ρ p
  | succ m c=>
   intro k ρ b p;rw [zjF];refine s k ρ #[94] p _ fun ρ' i=>?_
   grind
 have:=a n 0 ρ #[94] h
 simp_all
theorem jx{α : Type}{tb:TS3}{A:Ends3}(a:α->D)(l)(P:List α->Env3->Prop)(s:∀ done x rest ρ,l=done++x::rest->P done ρ->∀ W:Env3->Prop,(∀ ρ',P (done++[x]) ρ'->W ρ')->g f (a x) ρ fun ρ'=>tb { A with nx:=W,ct:=W,bk:=A.nx } ρ')(e:∀ ρ,P l ρ->A.nx ρ)(h:P [] ρ):forL g tb A f (l.map a) ρ:=by
 have i:∀ rest done ρ,l=done++rest->P done ρ->forL g tb A f (rest.map a) ρ:=by
  intro rest
  induction rest with
  | nil=>intro done ρ b p;rw [Yao] at b;subst b;exact e ρ p
  | cons x rest c=>
   intro done ρ b p;exact s done x rest ρ b p _ fun ρ' j=>c _ ρ' (by simp_all) j
 simp_all
end L3
namespace L3
open PySem L2
theorem zbt{xs:List α}{i:Int}(b:0<=i)(h:i<xs.length):∃ x,atI xs i=some x/\x∈xs/\xs[i.toNat]?=some x:=by
 have a:i.toNat<xs.length:=#[0]
 refine⟨_,?_,Ya4 a,YaQ a⟩
 have:=jb (YaQ a)
 grind
theorem JJ{i:Int}(a:0<=i)(h:i<n):ixN n i=some i.toNat:=by
 unfold ixN;rw [if_pos a,if_pos h]
end L3
namespace L2
open PySem PySem.Spec PyProof.Rows
end L2
namespace L3
open PySem PySem.Spec PyProof.Rows L2
variable[LamW]
section
variable{p:Pos}
end
variable[LamW]
section
variable{ρ: Env3}
end
section
variable{es:List Expr}{p:Pos}{x:Str}
end
end L3
namespace L2
open PySem PySem.Spec PyProof.Rows
def zhY(K:Ybf):V->V->Hp->VK->Prop:=fun x y H Q=>∃ p xs i v,x=.ref p/\y=.int i/\0<=i/\SqL K H p xs/\atI xs i=some v/\Q v H
theorem zdz:PGet X (zhY X.K):=by
 intro e s σ H x y v u Q I C m h;refine Hd fun k O=>?_;obtain⟨p,J,i,z,rfl,rfl,c,A,l,q⟩:=h;apply O;cases C;obtain⟨t,rfl⟩:=m;refine Hd fun k O=>?_;obtain⟨B,r,g,K⟩:=I.list A;obtain⟨j,b,o,F,G,n⟩:=zcc l;apply O;obtain⟨w,M,a⟩:=r.get o;have E:=JD;have L:=by
  rw [seqIndex_of c n] at b;exact Wa3 b
 exact wpAny_getItem_list g.isList c #[94] (by simp_all) ⟨z,H,I,a,q⟩
def zkK(K:Ybf):V->List V->Hp->VK->Prop:=fun x vs H Q=>∃ (p:Addr) (ns:List Int) (n:Int),x=.ref p/\vs=[.int n]/\SqL K H p (ns.map V.int)/\n∈ns/\Q (.int (ns.idxOf n:Nat)) H
theorem zhB:MtM X "list.index" (zkK X.K):=by
 intro i s σ H x O v S Q I E M h;obtain⟨p,A,n,rfl,rfl,B,w,q⟩:=h;cases E;obtain⟨u,rfl,t,rfl⟩:=M.one;obtain⟨a,r,o,K⟩:=I.list B;have b:=zaI r;obtain⟨⟨F,J,g,z⟩,e,G,C,L⟩:=o.isList;subst G L;have l:=b.length;have N:=YT.mpr w;have P:=JD;rw [YaR] at K;refine call_meets Y1 ⟨_,e,rfl⟩ PySem.F.entry_list_index (PySem.F.args_list_index_2 _ _)
  (SeqAt.list_indexAt p _ C J z _ _ _ (by simp_all) #[94] ?_ ?_) ⟨e,fun y R=>(eq_isInt n t b y (by grind)).at _ _,⟨.int _,H,I.tok _,⟨_,rfl⟩,q⟩⟩
 . show isInt n a[A.idxOf n]=true
   rw [isInt_at n b _ _ N]
   simp_all
 . intro j m c
   show isInt n a[j]=false
   rw [isInt_at n b j _ #[94]]
   exact ne_of_lt_idxOf c _
end L2
namespace L3
open PySem PySem.Spec PyProof.Rows L2
variable[LamW]
def aug3(i:Nat)(te:TE3):TS3:=fun A ρ=>∃ f n,ρ[i]?=some (some (.sh f (.int n)))/\te ρ fun c=>∃ g m,c=.sh g (.int m)/\A.nx (ρ.set i (some (.sh true (.int (n+m)))))
theorem zfc{i:Nat}{x:Str}{te:TE3}{pos':Pos}(C:X.N.Nodup)(o:X.N[i]?=some x)(p:Loc X.env.scope x)(b:PE3 X H0 e te)
 (j:X.fn x=true\/X.env.scope.names.lookup x=some .local:=by first|exact .inl rfl|exact .inr rfl|assumption):PS3 X H0 (.AugAssign (.Name x pos') .Add e pos) (aug3 i te):=
 PS.imp (zlb C o p b.ok zdR j) fun B σ H a=>by
  obtain⟨l,A,ρ,G,F,⟨f,n,h,q⟩,L⟩:=a;obtain⟨v,s,z⟩:=F.slot i _ h;have r:=zv (zm z).rd;subst r;refine⟨_,s,l,ρ,G,F,b.mono ρ _ _ (fun c ⟨g,m,u,q⟩ v I E y w=>?_) q⟩
  subst u;have r:=zv (zm w).rd;subst r;exact⟨n,m,rfl,rfl,L.nx _ _ _ _ ((F.gr y).set (.sc rfl (.int _))) q⟩
def par3(i j:Nat)(t:TA3):TS3:=fun A ρ=>t ρ fun cs=>∃ f a g b,cs=[.sh f a,.sh g b]/\A.nx ((ρ.set i (some (.sh f a))).set j (some (.sh g b)))
theorem zlh{i j:Nat}{x y:Str}{a b:Expr}{ta:TA3}{px py pt:Pos}{kt k2 pt2}(C:X.calm=true)(K:X.N.Nodup)(m:X.N[i]?=some x)(J:X.N[j]?=some y)(h:i≠j)
 (n:X.env.scope.names.lookup x=some .local) (I:X.env.scope.names.lookup y=some .local) (l:PA3 X H0 [a,b] ta)
 (E:swappedStores [.Tuple [.Name x px,.Name y py] kt pt] (.Tuple [a,b] k2 pt2) X.env=pure (some [x,y]):=by rfl)
 (s:swapsWithSole [.Tuple [.Name x px,.Name y py] kt pt] (.Tuple [a,b] k2 pt2) pos.line X.env=pure false:=by rfl) :
 PS3 X H0 (.Assign [.Tuple [.Name x px,.Name y py] kt pt] (.Tuple [a,b] k2 pt2) pos) (par3 i j ta):=
 PS.imp (zmC C K m J h n I l.ok E s) fun B σ H=>el7 fun z A ρ G F q L=>⟨z,ρ,G,F,l.mono ρ _ _ (fun O e N P M r w=>by
  obtain⟨f,a,g,b,c,q⟩:=e;subst c;obtain⟨v,u,rfl,p,o⟩:=vws2 w;exact⟨v,u,rfl,L.nx _ _ _ _ (((F.gr r).set (zm p)).set (zm o)) q⟩) q⟩
def idx3(to te:TE3):TE3:=fun ρ Q=>to ρ fun c=>∃ ds ns,c.dat=true/\c.d=.list ds/\Jf ds=some ns/\te ρ fun c2=>∃ g n,c2=.sh g (.int n)/\n∈ns/\Q (.sh true (.int (ns.idxOf n:Nat)))
theorem zms{o:Expr}{apos:Pos}{to te:TE3}(j:PE3 X H0 o to)(i:PE3 X H0 e te)(M:attributeBase o "index" X.env (eval o X.env)=eval o X.env:=by rfl)
 (P:((backTo pos (starEach [e] X.env)).all (fun x=>!x.1)&&(backToKw pos (keywordEach [] X.env)).all (fun x=>x.1.isSome)&&decide ([e].length+([]:List Keyword).length+(if([]:List Keyword).isEmpty then 0 else 1)<30))=true:=by rfl)
 (S:(apos.endLine==pos.line)=true:=by rfl) (A:starEach [e] X.env=(false,eval e X.env)::starEach [] X.env:=by rfl) (I:(backTo pos (starEach [] X.env)).any (·.1)=false:=by rfl) :
 PE3 X H0 (.Call (.Attribute o "index" apos) [e] [] pos) (idx3 to te):=by
 refine⟨fun ρ Q Q' h q=>j.mono ρ _ _ (fun c zz0 => by obtain ⟨z,m,a,b,d,q⟩ := zz0; exact ⟨z,m,a,b,d,i.mono ρ _ _ (fun U zz0 => by obtain ⟨g,n,x,y,q⟩ := zz0; exact ⟨g,n,x,y,h _ q⟩) q⟩) q,PE.imp (zdG Waj Y1 PySem.F.type_list_index zhB j.ok (zn i.ok zJ A) M P S A I) fun σ H Q=>el5 fun C ρ G F q=>⟨C,ρ,G,F,j.mono ρ _ _ (fun c s v K Z p w=>?_) q⟩⟩
 refine Hd fun k V=>?_;obtain⟨z,m,W,T,J,q⟩:=s;obtain⟨a,vs,rfl,B,Y⟩:=zag w p.sub W T;apply V;refine⟨.inl ⟨rfl,_,B⟩,C,ρ,K,F.gr p,i.mono ρ _ _ (fun U u v2 O R E L=>?_) q⟩
 refine Hd fun k V=>?_;obtain⟨g,n,rfl,N,q⟩:=u;apply V;have r:=zv (zm L).rd;subst r;have l:=zbp Y.rd J;subst l;exact⟨a,m,n,rfl,rfl,E.h.seq B,N,q _ O R (p.trans E) (.sh (.sc rfl (.int _)))⟩
def ext3(i:Nat)(te:TE3):TS3:=fun A ρ=>∃ f ds,ρ[i]?=some (some (.ow f ds))/\te ρ fun c=>∃ es,c=.sh true (.list es)/\ds.length+es.length<=sizeLine/\A.nx (ρ.set i (some (.ow f (ds++es))))
theorem zhq{i:Nat}{te:TE3}{x:Str}{np apos cpos:Pos}(U:X.N[i]?=some x)(z:Vis X.env.scope x)(o:PE3 X H0 e te)(S:(x==("__debug__" : Str))=false:=by decide)(a:(x==("__classdict__" : Str))=false:=by decide)
 (I:attributeBase (.Name x np) "extend" X.env (eval (.Name x np) X.env)=eval (.Name x np) X.env:=by rfl)
 (h:((backTo cpos (starEach [e] X.env)).all (fun x=>!x.1)&&(backToKw cpos (keywordEach [] X.env)).all (fun x=>x.1.isSome)&&decide ([e].length+([]:List Keyword).length+(if([]:List Keyword).isEmpty then 0 else 1)<30))=true:=by rfl)
 (N:(apos.endLine==cpos.line)=true:=by rfl) (u:starEach [e] X.env=(false,eval e X.env)::starEach [] X.env:=by rfl) (C:(backTo cpos (starEach [] X.env)).any (·.1)=false:=by rfl)
 (P:swapsWith (.Call (.Attribute (.Name x np) "extend" apos) [e] [] cpos) none pos.line X.env=pure false:=by rfl):PS3 X H0 (.Expr (.Call (.Attribute (.Name x np) "extend" apos) [e] [] cpos) pos) (ext3 i te):=by
 refine PS.imp (j0 (zdG Waj PySem.F.slot_list_extend PySem.F.type_list_extend zh1 (z9 U z S a) (zn o.ok zJ u) I h N u C) P) fun B σ H j=>?_
 refine Hd fun k V=>?_;obtain⟨K,A,ρ,G,F,⟨f,ds,p,q⟩,L⟩:=j;obtain⟨l,E,y,s,r⟩:=zcC F p;apply V;refine⟨_,y,zdO s,K,ρ,G,F,o.mono ρ _ _ (fun c ⟨es,O,Q,q⟩ v R Y g w=>?_) q⟩
 subst O;have m:=zm w;have T:=m.nw rfl;cases T with
 | lst J Z n=>
  rename_i b M;have W:Rfs X.K H0 R f _ _:=⟨((r.same g.g).rd).append (rdns_rd n),fun h=>zct ((r.same g.g).nw h) n⟩
  exact⟨l,b,E,M,rfl,rfl,g.h.at s,g.sub.s _ _ J,by rw [r.length,(rdns_rd n).length];exact Q,L.nx _ _ _ _ ((F.gr g).change p y W) q⟩
end L3
namespace L2
open PySem PySem.Spec PyProof.Rows
theorem zj9:bootBuiltins "enumerate" = some (.type "enumerate"):=by with_unfolding_all rfl
def Ite(K:Ybf)(a:Addr):It:=
 ⟨fun i H=>∃ xs x,SqL K H a xs/\xs[i]?=some x,
  fun i H v H'=>∃ p x,H p=none/\v=.ref p/\H'=upd H p (.tup [.int i,x])/\∀ xs,SqL K H a xs->xs[i]?=some x,
  fun i H=>∃ xs,SqL K H a xs/\i=xs.length⟩
theorem zk0{e:Addr}(G:e≠it)(C:l≠e)(M:l≠it) :
 Turn P w K (.Tuple elts k pos) (Ite K l) [e,it] e (fun i h=>(∃ old,IsEnum h e it i old)/\h.IsListIter it l i) where
 mem:=by simp
 obj:=fun i h a4 c S=>by
  obtain⟨⟨old,m⟩,⟨o1,e1,c1,d1⟩⟩:=a4
  grind
 keep:=fun i h h' ⟨⟨old,m⟩,v⟩ kk=>⟨⟨old,kk e (by simp) _ m⟩,v.at fun o e=>kk it (by simp) o e⟩
 item:=by
  intro X hP hw Y S i g s σ H E I Q O hg;subst hP hw Y;obtain⟨xs,x,R,hx⟩:=hg;obtain⟨a,r1,p1,_⟩:=I.list R;obtain⟨u,hu,ru⟩:=r1.get hx;have W:=WalksT.enumerate (prog:=X.prog) (w:=X.w) (A:=X.A) (I.ok.hd S) e it l G C M a.toArray;have Z:=by
   have a1:=(Ya8.mp hu).1
   omega
  obtain⟨m,v⟩:=O;have a6:∀ b∈[e,it],b<s.heap.objs.size:=fun b j=>by
   obtain⟨old,a0⟩:=m;have a3:b=e\/b=it:=by simpa using j
   rcases a3 with rfl|rfl
   . exact YaX a0
   . obtain⟨_,e,_⟩:=v;exact YaX e
  refine W.item i s _ _ Z ⟨m,v,p1.isList⟩ fun T a7 a8 tk a2 r L N kp=>?_
  obtain⟨t',u',U,e'⟩:=a2;subst e';have eu:u'=u:=by
   have:=by simpa using U
   rw [hu] at this;cases this;rfl
  subst eu;refine⟨_,rfl,W.go elts k pos i T _ _ _ N fun y F J=>?_⟩
  have I1:Inv X g σ H { s with heap:=y,toks:=tk }:=I.turnedL (ch:=[e,it]) (fun b o j e=>J b o j (kp b o j e)) fun b j=>Q b j
  have B:H T=none:=I.hok.fresh r;obtain⟨o,ho,oc,on,od⟩:=L;have a5:=J T o (W.apart i T _ N) ho;have I2:Inv X g σ (upd H T (.tup [.int i,x])) { s with heap:=y,toks:=tk }:=I1.track B (Ya5 I.sz r) (Wbo (YaU I.lt r)) (fun n c e z=>by
   obtain⟨vv,q⟩:=I.cell n c e;exact absurd (YaU q.lt (by rw [z];exact r)) (Yap _)) (fun p hp z=>absurd (YaU (YaX (I.pin p hp).1) (by rw [z];exact r)) (Yap _))
   ⟨by show 2<=sizeLine;decide,[.int i t',u'],.cons ⟨t',rfl⟩ (.cons ru .nil),o,a5,oc,on,od⟩
  refine⟨.ref T,_,I2,rfl,⟨T,x,B,rfl,rfl,fun a9 z1=>?_⟩,⟨F.1,F.2.1⟩,fun b j=>?_⟩
  . rw [I.list_inj z1 R];exact hx
  . rw [zc (Yaf (YaU (a6 b j) r))];exact(Q b j).1
 done:=by
  intro X hP hw Y S i g s σ H E I Q O hg;subst hP hw Y;obtain⟨xs,R,Z⟩:=hg;obtain⟨a,r1,p1,_⟩:=I.list R;have W:=WalksT.enumerate (prog:=X.prog) (w:=X.w) (A:=X.A) (I.ok.hd S) e it l G C M a.toArray;obtain⟨m,v⟩:=O;have ei:i=a.toArray.size:=by simp only [YaZ];rw [<-r1.length];exact Z
  subst ei;refine W.done s _ _ ⟨m,v,p1.isList⟩ fun h' tk kp=>⟨rfl,?_⟩
  exact I.turnedL (ch:=[e,it]) kp fun b j=>Q b j
 self:=fun _ _ _ _ _ O h=>by obtain⟨⟨old,m⟩,_⟩:=O;exact wpAny_pyIter_enum m h
def zl3(K:Ybf)(ta:TA):TI:=fun σ H R=>ta σ H fun vs H1=>∃ a,vs=[.ref a]/\(∃ xs,SqL K H1 a xs)/\R (Ite K a) H1
theorem zif{a:Expr}{p:Pos}(A:Gl X "enumerate")(y:X.mg "enumerate" = none)(C:PA X [a] ta)(F:starEach [a] X.env=[(false,eval a X.env)]:=by rfl):PI X (.Tuple elts k tpos) (.Call (.Name "enumerate" p) [a] [] pos) (zl3 X.K ta):=by
 intro v s σ H R I h;refine Call_ (Js I A y zj9 (Wad (thn (C pos _ s σ H _ I h) fun S j ⟨N,w,i,B,K⟩=>?_) (by rw [F];rfl) rfl))
 obtain⟨E,e,⟨Q,z⟩,q⟩:=K;subst e;obtain⟨u,rfl,J⟩:=Jl B;cases(J);obtain⟨m,_,r,_⟩:=i.list z;have c:E<j.heap.objs.size:=by obtain⟨o,e,_⟩:=r.isList;exact YaX e
 refine call_enumerate_list r.isList fun P n l M G=>wpAny_pyIter_enum n ?_
 have L:=i.kept (t':=j.toks) G;refine⟨_,_,_,_,w,rfl,L,zk0 (Nat.succ_ne_self _) (Yaf (WE c)) (Yaf c),⟨⟨_,n⟩,l⟩,fun b O=>?_,q⟩
 have g:j.heap.objs.size<=b:=by
  grind
 have f:=i.fpOk g (i.hok.fresh g)
 grind
end L2
namespace L3
open PySem PySem.Spec PyProof.Rows L2
variable[LamW]
section
variable{p:Pos}
noncomputable def jQ(ds:List D):List D:=(Xe ds.length).map fun i=>.tuple [.int (i:Nat),ds.getD i .none]
theorem zkz(a):(jQ a).length=a.length:=by unfold jQ;simp
theorem zlq{ds:List D}(h:(jQ ds)[i]?=some d):∃ a,d=.tuple [.int (i:Nat),a]/\ds[i]?=some a:=by
 unfold jQ at h
 by_cases b:i<ds.length
 . simp_all
 simp_all
def itE(t:TA3):TI3:=fun ρ Q=>t ρ fun cs=>∃ f as,cs=[.sh f (.list as)]/\Q f (jQ as)
theorem zki{K:Ybf}{H0 G:Hp}{a:Addr}{xs:List V}{f:Bool}{as:List D}(g:SqL K G a xs)(j:Rfs K H0 G f xs as):ItOk K H0 (Ite K a) f (jQ as) G where
 go:=fun i d y H A c b=>by
  obtain⟨q,rfl,B⟩:=zlq A;obtain⟨x,h,n⟩:=j.get B;have m:=c.trans b.s;refine⟨⟨xs,x,m.seq g,h⟩,fun v C ξ=>?_⟩
  refine Hd fun ν ζ=>?_;obtain⟨l,E,e,w,s,u⟩:=ξ;apply ζ;subst w s;have p:=u xs (m.seq g);rw [h] at p;cases p;have o:=zx (b.free e) (.tup [.int i,x]);exact⟨_,Gr.put b e,⟨.tup (SqT.of zf) (.cons (.int _) (.cons (zal (c.trans o) n.rd) .nil)),fun r=>
   .tup zf (.cons (.int _) (.cons (jV (c.trans o) (fun _ _ _ z=>z) (n.nw r)) .nil))⟩⟩
 stop:=fun i y H e c b=>⟨xs,(c.trans b.s).seq g,by rw [e,zkz,j.length]⟩
theorem zco{elts:List Expr}{k:Nat}{tpos:Pos}{a:Expr}{t:TA3}(o:Gl X "enumerate")(n:X.mg "enumerate" = none)(b:PA3 X H0 [a] t)(z:starEach [a] X.env=[(false,eval a X.env)]:=by rfl):PI3 X H0 (.Tuple elts k tpos) (.Call (.Name "enumerate" p) [a] [] pos) (itE t):=
 ⟨fun ρ Q B h q=>b.mono ρ _ _ (fun r ⟨f,g,e,q⟩=>⟨f,g,e,h _ _ q⟩) q,PI.imp (zif o n b.ok z) fun σ H R=>el5 fun l ρ G F q=>⟨l,ρ,G,F,b.mono ρ _ _ (fun r c C u m i w=>by
  obtain⟨f,g,e,k⟩:=c;subst e;obtain⟨v,rfl,y⟩:=vws1 w;obtain⟨a,s,rfl,j,A⟩:=JT (zm y);exact⟨a,rfl,⟨s,i.sub.seq j⟩,k _ u m i (zki j A)⟩) q⟩⟩
end
variable[LamW]
def TupI(K:Ybf)(a:Addr)(ns:List Int):Prop:=∃ (o:Obj) (its:Array Value) (n:Nat),K.lookup a=some o/\o.cls=.type "tuple"/\o.data=.seq its n/\its.size<=sizeLine/\Vals (ns.map V.int) its.toList
section
variable{x:Str}
def k3f(d:D):TE3:=fun _ Q=>Q (.sh false d)
theorem g3t{ns:List Int}(g:Gl X x)(b:∃ a,X.mg x=some (.ref a)/\TupI X.K a ns)(e:(x==("__debug__" : Str))=false:=by decide):PE3 X H0 (.Name x pos) (k3f (.tuple (ns.map .int))):=by
 obtain⟨a,b,c⟩:=b;exact⟨fun ρ Q i h q=>h _ q,PE.imp (zf0 (v:=.ref a) g b rfl e) fun σ H Q=>el5 fun j ρ G F q=>q _ G H (Gr.refl F.sub) (.sh ⟨.tup (.inr c) (zdd ns),fun z=>by cases z⟩)⟩
end
variable[LamW]
section
variable{ρ: Env3}
theorem JV(F:Fr3 K H0 G0 ρ σ G H){i:Nat}{ps:List Addr}{ms:List (List D)}(h:ρ[i]?=some (some (.tr ps ms))):∃ l,σ[i]?=some (some (.ref l))/\Tr K H0 G H l ps ms:=by
 obtain⟨v,b,a⟩:=F.slot i _ h;cases a with
 | tr t=>exact⟨_,b,t⟩
theorem Tr.ix(t:Tr K H0 G H l ps ms){n:Int}{m:List D}(h:atI ms n=some m):∃ a p vs,ixN ms.length n=some a/\ms[a]?=some m/\ps[a]?=some p/\atI (ps.map V.ref) n=some (.ref p)/\H p=some (.lst vs)/\G p=none/\Rfs K H0 G true vs m:=by
 unfold atI at *;rw [YaR,t.len];cases e:ixN _ n with
 | none=>simp_all
 | some a=>
  rw [e] at h;have b:=h;have o:a<ps.length:=by rw [t.len];exact(Ya8.mp b).1
  have c:=YaQ o;obtain⟨vs,i,g,j⟩:=t.item a _ m c b;exact⟨a,ps[a],vs,rfl,b,c,by simp_all,i,g,j⟩
theorem Tr.change(t:Tr K H0 G H l ps ms){a:Nat}{p:Addr}{m:List D}(g:ps[a]?=some p)(r:Rfs K H0 G true vs m):Tr K H0 G (upd H p (.lst vs)) l ps (ms.set a m):=by
 have h:=Yah g;have v:=YaB.mp t.nd;have c:l≠p:=fun z=>by lia
 refine⟨by rw [zc c];exact t.top,t.topG,t.nd,by rw [YaN];exact t.len,fun k q j b y=>?_⟩
 rcases zF y with ⟨rfl,e,_⟩|⟨n,e⟩
 . rw [g] at b;cases b
   rw [e];exact⟨vs,zf,((t.at h).choose_spec.choose_spec).2.1,r⟩
 . obtain⟨A,o,s,w⟩:=t.item k q j b e
   have B:q≠p:=fun z=>by
    subst z;obtain⟨C,i⟩:=Ya8.mp b;obtain⟨E,u⟩:=Ya8.mp g;exact n ((WaU v.2).mp (u.trans i.symm))
   exact⟨A,by rw [zc B];exact o,s,w⟩
theorem Fr3.chgT(F:Fr3 K H0 G0 ρ σ G H){i:Nat}{l:Addr}{ps:List Addr}{ms:List (List D)}{a:Nat}{p:Addr}{vs:List V}{m:List D}(c:ρ[i]?=some (some (.tr ps ms)))(g:σ[i]?=some (some (.ref l)))(e:ps[a]?=some p)(r:Rfs K H0 G true vs m):Fr3 K H0 G0 (ρ.set i (some (.tr ps (ms.set a m)))) σ G (upd H p (.lst vs)):=by
 obtain⟨j,b,t⟩:=JV F c;rw [g] at b;cases b;exact F.chg c g (.inr (Yah e)) (fun _ h=>h) (.tr (t.change e r))
end
section
variable{k j:Expr}{x:Str}
def ix2(i:Nat)(tk tj:TE3):TE3:=fun ρ Q=>∃ ps ms,ρ[i]?=some (some (.tr ps ms))/\tk ρ fun kc=>∃ n m,kc=.sh true (.int n)/\atI ms n=some m/\tj ρ fun jc=>∃ b d,jc=.sh true (.int b)/\atI m b=some d/\Q (.sh true d)
theorem at2{np kp:Pos}{tk tj:TE3}(hN:X.N[i]?=some x)(g:Vis X.env.scope x)(o:PE3 X H0 k tk)(C:PE3 X H0 j tj)(A:ZM k)(y:ZM j)(hd:(x==("__debug__" : Str))=false:=by decide)(u:(x==("__classdict__" : Str))=false:=by decide) :
 PE3 X H0 (.Subscript (.Subscript (.Name x np) k kp) j pos) (ix2 i tk tj):=by
 refine⟨fun ρ Q Q' h q=>?_,PE.imp (jI Jg (jI Jg (z9 hN g hd u) o.ok A) C.ok y) fun σ H Q=>el5 fun K ρ G F q=>?_⟩
 . obtain⟨M,L,e,q⟩:=q
   refine⟨M,L,e,o.mono ρ _ _ (fun kc q=>?_) q⟩
   obtain⟨n,m,z,s,q⟩:=q;refine⟨n,m,z,s,C.mono ρ _ _ (fun P q=>?_) q⟩
   obtain⟨b,d,r,w,q⟩:=q;exact⟨b,d,r,w,h _ q⟩
 . obtain⟨M,L,e,q⟩:=q
   obtain⟨l,N,t⟩:=JV F e;refine⟨_,N,K,ρ,G,F,o.mono ρ _ _ (fun kc q v1 S H1 J U=>?_) q⟩
   obtain⟨n,m,z,s,q⟩:=q;subst z;cases zv (zm U).rd;have E:=F.gr J;obtain⟨l',c,I⟩:=JV E e;rw [N] at c;cases c;refine Hd fun V ζ=>?_;obtain⟨a,p,R,h1,h2,h3,Y,Z,h6,O⟩:=I.ix s;apply ζ;refine⟨l,_,n,_,rfl,rfl,SqL.of I.top,Y,K,ρ,S,E,C.mono ρ _ _ (fun P q v2 W H2 B T=>?_) q⟩
   obtain⟨b,d,r,w,q⟩:=q;subst r;cases zv (zm T).rd;obtain⟨v,g,rv⟩:=za3 (O.same B.g) w;exact⟨p,R,b,v,rfl,rfl,SqL.of (B.h.at Z),g,q v W H2 (J.trans B) (.sh rv)⟩
def put2(i:Nat)(tk tj te:TE3):TS3:=fun A ρ=>∃ ps ms,ρ[i]?=some (some (.tr ps ms))/\te ρ fun c=>tk ρ fun kc=>∃ n m,kc=.sh true (.int n)/\atI ms n=some m/\tj ρ fun jc=>∃ b d a q,jc=.sh true (.int b)/\c=.sh true d/\ixN ms.length n=some a/\ixN m.length b=some q/\A.nx (ρ.set i (some (.tr ps (ms.set a (m.set q d)))))
theorem zha{tk tj te:TE3}{np kp spos:Pos}(hN:X.N[i]?=some x)(Q:Vis X.env.scope x)(M:PE3 X H0 k tk)(K:PE3 X H0 j tj)(E:PE3 X H0 e te)(u:ZM k)(hd:(x==("__debug__" : Str))=false:=by decide)(y:(x==("__classdict__" : Str))=false:=by decide)
 (hs:swapsWithSole [.Subscript (.Subscript (.Name x np) k kp) j spos] e pos.line X.env=pure false:=by rfl) (hw:swappedStores [.Subscript (.Subscript (.Name x np) k kp) j spos] e X.env=pure none:=by rfl)
 (h1:(assignEach [.Subscript (.Subscript (.Name x np) k kp) j spos] X.env).map (·.2)=[assign (.Subscript (.Subscript (.Name x np) k kp) j spos) X.env]:=by rfl)
 (ha:∀ v,assign (.Subscript (.Subscript (.Name x np) k kp) j spos) X.env v=(do
  let ov <-holding [v] (eval (.Subscript (.Name x np) k kp) X.env)
  let iv <-holding [v,ov] (eval j X.env)
  standAt spos
  holding [v,ov,iv] (setItem ov iv v)
  release [v,ov,iv] []):=by intro _;rfl):PS3 X H0 (.Assign [.Subscript (.Subscript (.Name x np) k kp) j spos] e pos) (put2 i tk tj te):=by
 refine PS.imp (zcv E.ok (zfA (jI Jg (z9 hN Q hd y) M.ok u) K.ok za2 ha) hs hw h1) fun B σ H s=>?_
 refine Hd fun V ζ=>?_;obtain⟨r,A,ρ,G,F,⟨ps,ms,o,q⟩,L⟩:=s;apply ζ;obtain⟨l,C,t⟩:=JV F o;refine⟨r,ρ,G,F,E.mono ρ _ _ (fun c q v T H1 Y w1=>?_) q⟩
 have N:=F.gr Y;refine⟨.ref l,C,r,ρ,T,N,M.mono ρ _ _ (fun kc q v2 G2 H2 P w2=>?_) q⟩
 obtain⟨n,m,Z,R,q⟩:=q;subst Z;cases zv (zm w2).rd;have w:=N.gr P;obtain⟨l',g,I⟩:=JV w o;rw [C] at g;cases g;refine Hd fun V ζ=>?_;obtain⟨a,p,S,k1,k2,U,k4,k5,k6,J⟩:=I.ix R;apply ζ;refine⟨l,_,n,_,rfl,rfl,SqL.of I.top,k4,r,ρ,G2,w,K.mono ρ _ _ (fun jc q v3 G3 H3 h w3=>?_) q⟩
 refine Hd fun V ζ=>?_;obtain⟨b,d,a',z,e3,W,O,e6,q⟩:=q;apply ζ;subst e3 W;cases zv (zm w3).rd;rw [k1] at O;cases O;refine⟨p,S,b,z,rfl,rfl,h.h.at k5,by rw [J.length];exact e6,L.nx _ _ _ _ ((w.gr h).chgT o C U ((J.same h.g).set ((zm w1).same (P.g.trans h.g)) z)) q⟩
def app2(i:Nat)(tk te:TE3):TS3:=fun A ρ=>∃ ps ms,ρ[i]?=some (some (.tr ps ms))/\tk ρ fun kc=>∃ n m a,kc=.sh true (.int n)/\atI ms n=some m/\ixN ms.length n=some a/\m.length<sizeLine/\te ρ fun c=>∃ d,c=.sh true d/\A.nx (ρ.set i (some (.tr ps (ms.set a (m++[d])))))
theorem zhJ{tk te:TE3}{np kp apos cpos:Pos}(hN:X.N[i]?=some x)(M:Vis X.env.scope x)(J:PE3 X H0 k tk)(w:PE3 X H0 e te)(r:ZM k)(hd:(x==("__debug__" : Str))=false:=by decide)(u:(x==("__classdict__" : Str))=false:=by decide)
 (hb:attributeBase (.Subscript (.Name x np) k kp) "append" X.env (eval (.Subscript (.Name x np) k kp) X.env)=eval (.Subscript (.Name x np) k kp) X.env:=by rfl)
 (S:((backTo cpos (starEach [e] X.env)).all (fun x=>!x.1)&&(backToKw cpos (keywordEach [] X.env)).all (fun x=>x.1.isSome)&&decide ([e].length+([]:List Keyword).length+(if([]:List Keyword).isEmpty then 0 else 1)<30))=true:=by rfl)
 (g:(apos.endLine==cpos.line)=true:=by rfl) (y:starEach [e] X.env=(false,eval e X.env)::starEach [] X.env:=by rfl) (Y:(backTo cpos (starEach [] X.env)).any (·.1)=false:=by rfl)
 (T:swapsWith (.Call (.Attribute (.Subscript (.Name x np) k kp) "append" apos) [e] [] cpos) none pos.line X.env=pure false:=by rfl):PS3 X H0 (.Expr (.Call (.Attribute (.Subscript (.Name x np) k kp) "append" apos) [e] [] cpos) pos) (app2 i tk te):=by
 refine PS.imp (j0 (zde (jI Jg (z9 hN M hd u) J.ok r) (zn w.ok zJ y) hb S g y Y) T) fun B σ H o=>?_
 refine Hd fun V ζ=>?_;obtain⟨z,A,ρ,G,F,⟨ps,ms,h,q⟩,L⟩:=o;apply ζ;obtain⟨l,g,t⟩:=JV F h;refine⟨_,g,z,ρ,G,F,J.mono ρ _ _ (fun kc q v2 G2 H2 g2 Z=>?_) q⟩
 refine Hd fun V ζ=>?_;obtain⟨n,m,a',Q,N,K,e6,q⟩:=q;apply ζ;subst Q;cases zv (zm Z).rd;have s:=F.gr g2;obtain⟨l',b,C⟩:=JV s h;rw [g] at b;cases b;refine Hd fun V ζ=>?_;obtain⟨a,p,O,U,k2,P,k4,E,k6,I⟩:=C.ix N;apply ζ;rw [U] at K;cases K;refine⟨l,_,n,_,rfl,rfl,SqL.of C.top,k4,zdO E,z,ρ,G2,s,w.mono ρ _ _ (fun c q v G3 H3 j R=>?_) q⟩
 obtain⟨d,W,q⟩:=q;subst W;exact⟨p,O,v,rfl,rfl,j.h.at E,by rw [I.length];exact e6,L.nx _ _ _ _ ((s.gr j).chgT h g P ((I.same j.g).snoc (zm R))) q⟩
def zaf(i:Nat)(ti:TI3)(m:List D):TS3:=fun A ρ=>ti ρ fun _ ds=>ds.length<=1000000/\∀ ps:List Addr,ps.length=ds.length->A.nx (ρ.set i (some (.tr ps (Xb ds.length m))))
theorem zdI(lo)(n):(nums lo n).length=n:=by unfold nums;rw [YaR,YaG]
theorem zeq{es:List Expr}{kn:Str}{kp lp:Pos}{iter:Expr}{scope:Scope}{spos pos':Pos}{ti:TI3}{te:TE}{vs:List V}{m:List D}(hN:X.N.Nodup)(a2:X.N[i]?=some x)(hx:Loc X.env.scope x)(U M:List Str)(js:List Nat)(w:X.calm=true)(S:CompSc X.env.scope scope U M)(hj:js.map (fun j=>X.N[j]?)=M.map some)
 (hi:PI3 X H0 (.Name kn kp) iter ti)
 (E:∀ s H fp cl,PG (X.comp scope (U++M) s H fp cl) (.Name kn kp) (zb7 0)/\PE (X.comp scope (U++M) s H fp cl) (.List es lp) te)
 (ht:∀ σ H Q,(∀ p,H p=none->Q (.ref p) (upd H p (.lst vs)))->te σ H Q) (hr:∀ G,RdVs X.K G vs m) (a4:m.all zt=true)
 (hs:∀ x,foldedSetIterable iter X.env x=pure x:=by intro _;rfl)
 (a5:swapsWith (.ListComp (.List es lp) [⟨.Name kn kp,iter,[],0⟩] scope pos) (some (.Name x pos')) spos.line X.env=pure true:=by rfl) (hf:X.fn x=true\/X.env.scope.names.lookup x=some .local:=by first|exact .inl rfl|exact .inr rfl|assumption) :
 PS3 X H0 (.Assign [.Name x pos'] (.ListComp (.List es lp) [⟨.Name kn kp,iter,[],0⟩] scope pos) spos) (zaf i ti m):=by
 refine PS.imp (zbv hN a2 hx U M js w S hj hi.ok (fun s H fp cl=>⟨(E s H fp cl).1,zaE,(E s H fp cl).2⟩) hs a5 hf) fun B σ H a1=>?_
 obtain⟨G0,A,ρ,G,F,q,L⟩:=a1;refine⟨G0,ρ,G,F,hi.mono ρ _ _ (fun fl W q J K H1 R ok D T=>?_) q⟩
 obtain⟨e2,q⟩:=q;generalize hn:W.length=n at e2 q;have F1:=F.gr R;have gD:K D=none:=R.sub.free T;refine⟨fun c r ys σ2 u=>c<=n/\r=n - c/\zh H1 u/\∃ y:List Addr,ys=y.map V.ref/\y.length=c/\u D=some (.lst ys)/\(D::y).Nodup/\∀ p∈y,H1 p=none/\u p=some (.lst vs),
  ⟨n,Wby _,rfl,(zx T _).x,[],rfl,rfl,zf,by simp,fun p g=>by cases g⟩,?_⟩
 rintro c r ys σ2 u ⟨Z,rfl,O,y,rfl,l,I,v,e⟩
 have sG:Sub K u:=R.sub.trans O
 by_cases N:c<n
 . right
   have a0:c<W.length:=by rw [hn];exact N
   have hd:W[c]?=some W[c]:=YaQ a0;obtain⟨a6,hy⟩:=ok.go c _ K u hd (Same.refl _) sG;refine⟨a6,fun x3 H3 y3=>?_⟩
   obtain⟨G3,C,_⟩:=hy x3 H3 y3;show te _ H3 _;refine ht _ _ _ fun p g=>?_
   have o:=C.h.at I;have P:p≠D:=fun z=>by subst z;rw [g] at o;cases o
   have p1:H1 p=none:=(O.trans C.h).free g;refine⟨by rw [zc (WbA P)];exact o,?_,n - (c+1),#[94],#[94],rfl,?_,y++[p],by rw [Ya2];rfl,by rw [YaS,l];rfl,zf,?_,?_⟩
   . rw [YaR,l]
     exact YaU (show c<1000001 by lia) #[1]
   . exact((O.trans C.h).trans (zx g _).x).chg T (by rw [zc (WbA P)];exact o) fun f z=>by cases z
   . refine WaK.mpr ⟨v,by simp,fun a ha b E=>?_⟩
     cases Ya6.mp E
     intro z;subst z
     rcases Wbe.mp ha with h|h
     . exact P h
     . have:=C.h.at (e a h).2
       rw [g] at this;cases this
   . intro b E
     rcases Ya3.mp E with h|h
     . have a3:b≠D:=fun z=>by subst z;exact(YaB.mp v).1 h
       have a7:b≠p:=fun z=>by
        subst z;have:=C.h.at (e b h).2;rw [g] at this;cases this
       exact⟨(e b h).1,by rw [zc a3,zc a7];exact C.h.at (e b h).2⟩
     . cases Ya6.mp h
       exact⟨p1,by rw [zc P];exact zf⟩
 . left
   have ec:c=n:=Wh Z (Uh.mp N);subst ec;refine⟨ok.stop c K u hn.symm (Same.refl _) sG,?_⟩;refine L.nx _ _ K u (F1.put O (.tr ⟨I,gD,v,by rw [l,Ybb],fun k p m' h1 h2=>?_⟩) fun a h=>?_) (q y l)
   . have Y:m'=m:=by
      have:=Yah h2;exact Wai this
     subst Y;have g:=Yah h1;exact⟨vs,(e p g).2,R.sub.free (e p g).1,hr _,fun _=>zgC a4 (hr _)⟩
   . rcases h with h|h
     . cases h;exact T
     . exact(e a h).1
end
end L3
namespace L2
open PySem PySem.Spec PyProof.Rows
section
variable{κ: Type}[DecidableEq κ]
noncomputable def valV(kvs:List (κ×V))(k:κ):Option V:=(kvs.find? fun kv=>decide (kv.1=k)).map (·.2)
noncomputable def putK(kvs:List (κ×V))(k:κ)(v:V):List (κ×V):=
 if(kvs.any fun kv=>decide (kv.1=k))=true then kvs.map (fun kv=>if kv.1=k then(kv.1,v) else kv) else kvs++[(k,v)]
theorem zaG{p:κ×V}{r:List (κ×V)}{k:κ}(e:p.1=k):valV (p::r) k=some p.2:=by simp [valV,XM,e]
theorem zaO{p:κ×V}{r:List (κ×V)}{k:κ}(e:¬p.1=k):valV (p::r) k=valV r k:=by simp [valV,XM,e]
theorem zeZ(k:κ):∀ kvs:List (κ×V),(kvs.any fun kv=>decide (kv.1=k))=(valV kvs k).isSome
 | []=>rfl
 | p :: r => by
  rw [Ww]
  by_cases e:p.1=k
  . simp [zaG e,decide_eq_true e]
  . rw [zaO e,decide_eq_false e];exact zeZ k r
theorem zgS(kvs:List (κ×V))(k:κ)(v:V):(putK kvs k v).length<=kvs.length+1:=by
 unfold putK
 grind
theorem RelO.isSome_eq{o:Option V}{u:Option Value}(r:RelO o u):o.isSome=u.isSome:=by
 cases o with
 | none => cases u with
  | none=>rfl
  | some _=>exact(r).elim
 | some _ => cases u with
  | none=>exact(r).elim
  | some _=>rfl
theorem RelO.getD{o:Option V}{u:Option Value}(r:RelO o u)(a:RelV d d'):RelV (o.getD d) (u.getD d'):=by
 cases o with
 | none => cases u with
  | none=>exact a
  | some _=>exact(r).elim
 | some _ => cases u with
  | none=>exact(r).elim
  | some _=>exact r
theorem KV.val{kvs:List (κ×V)}{vs:List (κ×Value)}(r:KV kvs vs)(k:κ):RelO (valV kvs k) (valueAt vs k):=by
 induction r with
 | nil=>exact XF
 | @cons p q l c h t i=>
  obtain⟨g,j⟩:=h
  by_cases e:p.1=k
  . have a:=g.symm.trans e
    have b:valueAt (q::c) k=some q.2:=by simp [valueAt,a]
    rw [zaG e,b];exact j
  . have a:¬q.1=k:=fun z=>e (g.trans z)
    have b:valueAt (q::c) k=valueAt c k:=by simp [valueAt,a]
    rw [zaO e,b];exact i
theorem KV.any{kvs:List (κ×V)}{vs:List (κ×Value)}(r:KV kvs vs)(k:κ):(kvs.any fun kv=>decide (kv.1=k))=vs.any fun kv=>decide (kv.1=k):=by
 induction r with
 | nil=>rfl
 | cons h t a=>simp_all
theorem KV.repl{kvs:List (κ×V)}{vs:List (κ×Value)}(r:KV kvs vs)(k:κ){y:V}{u:Value}(b:RelV y u) :
 KV (kvs.map fun kv=>if kv.1=k then(kv.1,y) else kv) (vs.map fun kv=>if kv.1=k then(kv.1,u) else kv):=by
 induction r with
 | nil=>exact .nil
 | @cons p q e c h t a=>
  refine .cons ?_ a
  grind
theorem KV.put{kvs:List (κ×V)}{vs:List (κ×Value)}(r:KV kvs vs)(k:κ){y:V}{u:Value}(a:RelV y u):KV (putK kvs k y) (stored vs k u):=by
 unfold putK stored;rw [r.any k]
 by_cases e:(vs.any fun b=>decide (b.1=k))=true
 . rw [if_pos e,if_pos e];exact r.repl k a
 . rw [if_neg e,if_neg e];exact Uy r ⟨rfl,a⟩
theorem KV.length{kvs:List (κ×V)}{vs:List (κ×Value)}(r:KV kvs vs):kvs.length=vs.length:=Wbd r
end
theorem JN(r:RelV (kV k) u):(ji P w).is k u=true:=by
 cases k with
 | inl i=>obtain⟨t,e⟩:=(r);subst e;exact zmj P w i t
 | inr x=>obtain⟨t,e⟩:=(r);subst e;exact zjw P w x t
theorem zgp{P:Program}{w:World}:∀ {ks:List Key} {us:List Value},Vals (ks.map kV) us->ItemsAre (ji P w) ks us
 | [],_,r=>by cases r;exact .nil
 | k :: ks, _, r => by
  cases r with
  | cons h t=>exact .cons (JN h) (zgp t)
abbrev KT(H:Hp):List (List Key×V)->List (List Key×Addr×Value)->Prop:=Paired fun p q=>p.1=q.1/\H q.2.1=some (.tup (p.1.map kV))/\RelV p.2 q.2.2
theorem KT.val(r:KT H kvs xs)(k):RelO (valV kvs k) ((atKey xs k).map (·.2)):=by
 induction r with
 | nil=>exact XF
 | @cons p q l c h t i=>
  obtain⟨g,_,j⟩:=h
  by_cases e:p.1=k
  . have a:=g.symm.trans e
    have b:atKey (q::c) k=some q.2:=by simp [atKey,a]
    rw [zaG e,b];exact j
  . have a:¬q.1=k:=fun z=>e (g.trans z)
    have b:atKey (q::c) k=atKey c k:=by simp [atKey,a]
    rw [zaO e,b];exact i
theorem KT.repl(r:KT H kvs xs)(k){y:V}(b:RelV y u) :
 KT H (kvs.map fun kv=>if kv.1=k then(kv.1,y) else kv) (xs.map (putAt k u)):=by
 induction r with
 | nil=>exact .nil
 | @cons p q e c h t a=>
  refine .cons ?_ a
  unfold putAt
  lia
theorem KT.put(r:KT H kvs xs)(k){b:Addr}{y:V}(g:H b=some (.tup (k.map kV)))(a:RelV y u) :
 KT H (putK kvs k y) (storedH xs k b u):=by
 have e:(kvs.any fun c=>decide (c.1=k))=(atKey xs k).isSome:=by
  rw [zeZ,(r.val k).isSome_eq,WaL]
 unfold putK storedH;rw [e]
 by_cases q:(atKey xs k).isSome=true
 . rw [if_pos q,if_pos q];exact r.repl k a
 . rw [if_neg q,if_neg q];exact Uy r ⟨rfl,g,a⟩
theorem KT.keeps(r:KT H kvs xs)(a:∀ b ys,H b=some (.tup ys)->H' b=some (.tup ys)):KT H' kvs xs:=
 Paired.mapP r fun _ _ z=>⟨z.1,a _ _ z.2.1,z.2.2⟩
theorem zgm{u:HO}(b:HOk P w H h)(e:Rd H a u):zQ P w H h a u:=e.ok b
theorem JH{kvs:List (Key×V)}(b:HOk P w H h)(e:Rd H a (.dK kvs)):kvs.length<=sizeLine/\(a==sysModules)=false/\∃ vs,KV kvs vs/\h.DictOf (ji P w) a vs:=
 zgm b e
theorem ziF{kvs:List (Key×V)}(b:HOk P w H h)(e:H a=some (.dK kvs)):kvs.length<=sizeLine/\(a==sysModules)=false/\∃ vs,KV kvs vs/\h.DictOf (ji P w) a vs:=JH b (.inl e)
theorem J6{ks:List Key}(j:HOk P w H h)(e:H a=some (.tup (ks.map kV))):(tupleKind (ji P w)).is h ks a:=by
 obtain⟨_,b,r,o,i,g,n,c⟩:=(j a _ e);exact⟨o,_,n,i,g,c,by simpa using zgp r⟩
theorem Jz(g:HOk P w H h)(e:Rd H a (.dT kvs)):kvs.length<=sizeLine/\(a==sysModules)=false/\
 ∃ xs,KT H kvs xs/\h.DictOfH (tupleKind (ji P w)) a xs:=by
 refine Hd fun G k=>?_;obtain⟨z,y,xs,r,o,n,i,j,B,u,v,A⟩:=(zgm g e);apply k;refine⟨z,y,xs,r,o,n,i,j,B,u,v,fun x b=>?_,A⟩
 have c:∀ {l:List _} {m:List _},KT H l m->∀ x∈m,(tupleKind (ji P w)).is h x.1 x.2.1:=by
  intro l m q
  induction q with
  | nil=>simp_all
  | @cons p q E C F t s=>
   intro x b
   rcases Wbe.mp b with e|b
   . exact J6 g (by simp_all)
   . exact s x b
 exact c r x b
theorem zle(b:HOk P w H h)(e:H a=some (.dT kvs)):kvs.length<=sizeLine/\(a==sysModules)=false/\
 ∃ xs,KT H kvs xs/\h.DictOfH (tupleKind (ji P w)) a xs:=Jz b (.inl e)
def DGet(H:Hp)(a:Addr)(y:V)(r:Option V):Prop:=
 (∃ kvs k,Rd H a (.dK kvs)/\y=kV k/\r=valV kvs k)\/∃ kvs k b,Rd H a (.dT kvs)/\y=.ref b/\H b=some (.tup (k.map kV))/\r=valV kvs k
def DPut(H:Hp)(a:Addr)(y v:V)(H':Hp):Prop:=
 (∃ kvs k,H a=some (.dK kvs)/\y=kV k/\kvs.length<sizeLine/\H'=upd H a (.dK (putK kvs k v)))\/
 ∃ kvs k b,H a=some (.dT kvs)/\y=.ref b/\H b=some (.tup (k.map kV))/\kvs.length<sizeLine/\H'=upd H a (.dT (putK kvs k v))
theorem DGet.k{kvs:List (Key×V)}{k:Key}(e:H a=some (.dK kvs)):DGet H a (kV k) (valV kvs k):=.inl ⟨kvs,k,.inl e,rfl,rfl⟩
theorem DGet.t{b:Addr}{k:List Key}(e:H a=some (.dT kvs))(c:H b=some (.tup (k.map kV))):DGet H a (.ref b) (valV kvs k):=.inr ⟨kvs,k,b,.inl e,rfl,c,rfl⟩
theorem DPut.k{kvs:List (Key×V)}{k:Key}(e:H a=some (.dK kvs))(b:kvs.length<sizeLine):DPut H a (kV k) v (upd H a (.dK (putK kvs k v))):=.inl ⟨kvs,k,e,rfl,b,rfl⟩
theorem DPut.t{b:Addr}{k:List Key}(e:H a=some (.dT kvs))(c:H b=some (.tup (k.map kV)))(g:kvs.length<sizeLine) :
 DPut H a (.ref b) v (upd H a (.dT (putK kvs k v))):=.inr ⟨kvs,k,b,e,rfl,c,g,rfl⟩
section
variable{y:V}{r:Value}{o:Option V}
theorem Inv.big(I:Inv X pins σ H s):sysModules<s.heap.objs.size:=by
 have h:=(I.mod.glob.keeps I.bk).lt;exact Wbp #[1] h
theorem zm2(B:A.units+1<cLine)(I:Inv X pins σ H s)(g:DGet H a y (some v))(r:RelV y u)(h:∀ w' s',Inv X pins σ H s'->RelV v w'->Q w' s') :
 wpAny (model X.prog X.w) A (getItem (.ref a) u) Q E s:=by
 rcases g with ⟨q,k,e,j,l⟩|⟨q,k,b,e,j,C,l⟩
 . subst j
   obtain⟨z,F,G,c,m⟩:=JH I.hok e;obtain⟨w',n,i⟩:=RelO.some_of (by rw [l];exact c.val k)
   exact wpAny_getItem_of (JN r) m.mapOf n (h w' _ (I.tok _) i)
 . subst j
   cases(r)
   obtain⟨z,F,J,c,m⟩:=Jz I.hok e;obtain⟨w',n,i⟩:=RelO.some_of (by rw [l];exact c.val k)
   obtain⟨p,w,o⟩:=Option.map_eq_some_iff.mp n;refine wpAny_getItem_heap (tupleKind_room_in1 B) (J6 I.hok C) m w ?_;rw [o];exact h w' _ (I.tok _) i
theorem d_in(r:A.units+1<cLine)(I:Inv X pins σ H s)(g:DGet H a y o)(p:RelV y u)(h:∀ s',Inv X pins σ H s'->Q (.bool o.isSome) s') :
 wpAny (model X.prog X.w) A (compareOp .In u (.ref a)) Q E s:=by
 rcases g with ⟨n,k,e,i,l⟩|⟨n,k,b,e,i,v,l⟩
 . subst i
   obtain⟨z,m,w,c,j⟩:=JH I.hok e;refine wpAny_in_of (JN p) m j.mapOf ?_;rw [<-(c.val k).isSome_eq,<-l];exact h _ (I.tok _)
 . subst i
   cases(p)
   obtain⟨z,m,B,c,j⟩:=Jz I.hok e;refine wpAny_in_heap (tupleKind_room_in1 r) (J6 I.hok v) m j ?_;have q:=(c.val k).isSome_eq;rw [WaL] at q;rw [<-q,<-l];exact h _ (I.tok _)
theorem znq(r:A.units+1<cLine)(I:Inv X pins σ H s)(g:DGet H a y o)(p:RelV y u)(h:∀ s',Inv X pins σ H s'->Q (.bool (!o.isSome)) s') :
 wpAny (model X.prog X.w) A (compareOp .NotIn u (.ref a)) Q E s:=by
 rcases g with ⟨n,k,e,i,l⟩|⟨n,k,b,e,i,v,l⟩
 . subst i
   obtain⟨z,m,w,c,j⟩:=JH I.hok e;refine wpAny_notIn_of (JN p) m j.mapOf ?_;rw [<-(c.val k).isSome_eq,<-l];exact h _ (I.tok _)
 . subst i
   cases(p)
   obtain⟨z,m,B,c,j⟩:=Jz I.hok e;refine wpAny_notIn_heap (tupleKind_room_in1 r) (J6 I.hok v) m j ?_;have q:=(c.val k).isSome_eq;rw [WaL] at q;rw [<-q,<-l];exact h _ (I.tok _)
theorem zeu(I:Inv X pins σ H s)(h:Mut (H a))(g:Yh a s.heap h')(e:∃ q,h'.get? a=some q)(c:zQ X.prog X.w (upd H a ob) h' a ob) :
 Inv X pins σ (upd H a ob) { s with heap:=h',toks:=t' }:=
 I.write h (.inl rfl) (fun b q i z=>(g.2 b i).trans z) e c
theorem zi3{kvs:List (Key×V)}{vs:List (Key×Value)}(z:kvs.length<=sizeLine)(c:(a==sysModules)=false)(b:KV kvs vs)(dd:h'.DictOf (ji P w) a vs) :
 zQ P w H' h' a (.dK kvs):=⟨z,c,vs,b,dd⟩
theorem zi4{Q:Unit->Shared->Prop}(P:A.units+1<cLine)(I:Inv X pins σ H s)(g:DPut H a y v H')(ry:RelV y u)(rv:RelV v r)(h:∀ s',Inv X pins σ H' s'->Q () s') :
 wpAny (model X.prog X.w) A (setItem (.ref a) u r) Q E s:=by
 rcases g with ⟨j,k,e,p,l,G⟩|⟨j,k,b,e,p,M,l,G⟩
 . subst p G
   obtain⟨z,F,R,i,C⟩:=ziF I.hok e;have hz:R.length<=sizeLine:=by rw [<-i.length];exact z
   have hl:(putK j k v).length<=sizeLine:=by have:=zgS j k v;lia
   refine wpAny_setItem_pairs (JN ry) C fun L m w=>h _ ?_
   have O:∃ q,L.get? a=some q:=let ⟨q,_,_,o,_⟩:=m;⟨q,o⟩;exact zeu I (by rw [e];exact XF) w O (zi3 hl F (i.put k rv) m)
 . subst p G
   cases(ry)
   obtain⟨z,F,Z,i,C⟩:=zle I.hok e;have hz:Z.length<=sizeLine:=by rw [<-Wbd i];exact z
   have hl:(putK j k v).length<=sizeLine:=by have:=zgS j k v;lia
   refine wpAny_setItem_heap (tupleKind_room_in1 P) (J6 I.hok M) C fun L m w=>h _ ?_
   refine Hd fun N Y=>?_;obtain⟨q,es,ep,o,h2,T,U,_,W⟩:=m;apply Y;refine zeu I (by rw [e];exact XF) w ⟨q,o⟩ ⟨hl,F,_,(i.put k M rv).keeps fun c ys K=>?_,q,es,ep,o,h2,T,U,W⟩
   rw [zc (zma K e (fun z=>nomatch z))]
   exact K
end
section
variable{kvs:List (Key×V)}{k:Key}
end
def NoSl(i:Expr):Prop:=∀ ov iv,subscripted i false ov iv=operate [ov,iv] (getItem ov iv)
theorem zkF{T:String}
 (m:typeLookup (.type T) "__getitem__" = pure (some (.builtin id))) (l:NoSl slice)
 (h:wpAny (model prog w) A (eval value env) (fun o s₁=>wpAny (model prog w) A (eval slice env) (fun i s₂=>s₂.TypeIs o T/\wpAny (model prog w) A (getItem o i) Q E s₂) E s₁) E s) :
 wpAny (model prog w) A (eval (.Subscript value slice pos) env) Q E s:=by
 refine Subscript_ (wpAny_mono h (fun o s₁ c=>wpAny_mono c (fun i s₂ a=>?_) fun _ _ x=>x) fun _ _ x=>x)
 obtain⟨j,a⟩:=a;refine wpAny_bind ?_;refine wpAny_bind (wpAny_specialOf j m ?_);have g:wpAny (model prog w) A (subscripted slice false o i) (fun r b=>wpAny (model prog w) A (letTemporaryGo value o r >>= fun _=>pure r) Q E b) E s₂:=by
  rw [l o i];exact wpAny_operating (wpAny_mono a (fun r b e=>wpAny_bind (wpAny_letTemporaryGo (wpAny_pure e))) fun _ _ x=>x)
 first
  | exact wpAny_pure (wpAny_bind g)
  | grind
  | grind
theorem zhH{y:V}{o:Option V}(I:Inv X pins σ H s)(g:DGet H a y o):s.TypeIs (.ref a) "dict":=by
 rcases g with ⟨h,k,e,_,_⟩|⟨h,k,b,e,_,_,_⟩
 . obtain⟨_,_,i,_,c⟩:=JH I.hok e
   exact c.typeIs
 . obtain⟨_,_,j,_,c⟩:=Jz I.hok e
   exact c.typeIs
def zni(td ty:TE):TE:=fun σ H Q=>td σ H fun x H1=>ty σ H1 fun y H2=>∃ a v,x=.ref a/\DGet H2 a y (some v)/\Q v H2
def tDIn(ty td:TE):TE:=fun σ H Q=>ty σ H fun y H1=>td σ H1 fun x H2=>∃ a o,x=.ref a/\DGet H2 a y o/\Q (.bl o.isSome) H2
def znb(ty td:TE):TE:=fun σ H Q=>ty σ H fun y H1=>td σ H1 fun x H2=>∃ a o,x=.ref a/\DGet H2 a y o/\Q (.bl (!o.isSome)) H2
def zcT(td ty tv:TE):TS:=fun D σ H=>tv σ H fun v H1=>td σ H1 fun x H2=>ty σ H2 fun y H3=>∃ a H4,x=.ref a/\DPut H3 a y v H4/\D.nx σ H4
section
variable{o i value:Expr}{td ty tv:TE}
theorem jL(q:X.A.units+1<cLine)(n:PE X o td)(p:PE X i ty)(A:NoSl i):PE X (.Subscript o i pos) (zni td ty):=by
 intro e s σ H Q I h;refine zkF PySem.F.slot_dict_getitem.lookup A (thn (n _ s σ H _ I h) fun u r ⟨x,m,j,C,E⟩=>thn (p _ r σ m _ j E) fun K G ξ=>?_)
 refine Hd fun ν ζ=>?_;obtain⟨y,B,c,z,a,v,l,g,w⟩:=ξ;apply ζ;subst l;obtain rfl:u=Xs a:=C;exact⟨zhH c g,zm2 q c g z fun L J F b=>⟨v,B,F,b,w⟩⟩
theorem zmz(n:X.A.units+1<cLine)(m:PE X i ty)(l:PE X o td):PC X .In i o (tDIn ty td):=by
 intro b s σ H Q I h;refine thn (m _ s σ H _ I h) fun E p ⟨y,j,c,A,z⟩=>thn (l _ p σ j _ c z) fun u F ξ=>?_
 refine Hd fun ν ζ=>?_;obtain⟨x,r,w,v,a,C,e,g,q⟩:=ξ;apply ζ;subst e;obtain rfl:u=Xs a:=v;exact d_in n w g A fun G B=>⟨.bl _,r,B,rfl,q⟩
theorem zb3(n:X.A.units+1<cLine)(m:PE X i ty)(l:PE X o td):PC X .NotIn i o (znb ty td):=by
 intro b s σ H Q I h;refine thn (m _ s σ H _ I h) fun E p ⟨y,j,c,A,z⟩=>thn (l _ p σ j _ c z) fun u F ξ=>?_
 refine Hd fun ν ζ=>?_;obtain⟨x,r,w,v,a,C,e,g,q⟩:=ξ;apply ζ;subst e;obtain rfl:u=Xs a:=v;exact znq n w g A fun G B=>⟨.bl _,r,B,rfl,q⟩
theorem Jj(z:X.A.units+1<cLine)(q:PE X o td)(w:PE X i ty)(e:PE X value tv)(F:swapsWith value (some (.Subscript o i pos')) pos.line X.env=pure false) :
 PS X (.Assign [.Subscript o i pos'] value pos) (zcT td ty tv):=by
 intro b s σ H D I h;refine wpAny_Assign_Subscript (thn (e _ s σ H _ I h) fun r A ⟨v,p,c,l,L⟩=>thn (q _ A σ p _ c L) fun u n ⟨x,G,K,J,B⟩=>thn (w _ n σ G _ K B) fun P O ξ=>?_) F
 refine Hd fun ν ζ=>?_;obtain⟨y,Q,M,C,a,N,j,g,m⟩:=ξ;apply ζ;subst j;obtain rfl:u=Xs a:=J;exact zi4 z M g C l fun R E=>⟨σ,N,E,m⟩
end
theorem zh3(h:Heap)(a:sysModules<h.objs.size):zQ P w H (h.push { cls:=.type "dict", data:=.dict #[] }) h.objs.size (.dK []):=
 ⟨Wby _,beq_eq_false_iff_ne.mpr (WbA (Yaf a)),[],.nil,Heap.DictOf.new h⟩
theorem zmO(h:Heap)(a:sysModules<h.objs.size):zQ P w H (h.push { cls:=.type "dict", data:=.dict #[] }) h.objs.size (.dT []):=
 ⟨Wby _,beq_eq_false_iff_ne.mpr (WbA (Yaf a)),[],.nil,_,#[],0,Yan _ rfl,⟨rfl,rfl,rfl⟩,rfl,rfl,Wbb⟩
def tDNewK:TE:=fun _ H Q=>∀ p,H p=none->Q (.ref p) (upd H p (.dK []))
def tDNewT:TE:=fun _ H Q=>∀ p,H p=none->Q (.ref p) (upd H p (.dT []))
theorem J7:PE X (.Dict [] [] pos) tDNewK:=fun a s σ H Q I h=>
 wpAny_Dict_empty ⟨.ref _,_,I.laid (fun _ _ q=>YaW _ q) (YaY _) (zh3 _ I.big),rfl,h _ (I.hok.fresh (YaY _))⟩
theorem zmL:PE X (.Dict [] [] pos) tDNewT:=fun a s σ H Q I h=>
 wpAny_Dict_empty ⟨.ref _,_,I.laid (fun _ _ q=>YaW _ q) (YaY _) (zmO _ I.big),rfl,h _ (I.hok.fresh (YaY _))⟩
end L2
namespace L3
open PySem PySem.Spec PyProof.Rows L2
variable[LamW]
noncomputable def getT(ds:List (List Key×D))(k:List Key):Option D:=(ds.find? fun kv=>decide (kv.1=k)).map (·.2)
noncomputable def putT(ds:List (List Key×D))(k:List Key)(d:D):List (List Key×D):=
 if(ds.any fun kv=>decide (kv.1=k))=true then ds.map (fun kv=>if kv.1=k then(kv.1,d) else kv) else ds++[(k,d)]
theorem Jv:getT ((k,d)::ds) k=some d:=by simp [getT]
theorem j8(e:¬k'=k):getT ((k',d)::ds) k=getT ds k:=by simp [getT,e]
section
variable{ρ: Env3}
theorem Dr.get(r:Dr K H0 G kvs ds)(h:getT ds k=some d):∃ v,valV kvs k=some v/\Rf K H0 G true v d:=by
 induction r with
 | nil=>cases h
 | cons a b i=>
  rename_i n m o c g
  by_cases e:n=k
  . subst e
    rw [Jv] at h;cases h;exact⟨m,zaG rfl,a⟩
  . rw [j8 e] at h
    obtain⟨v,j,l⟩:=i h;exact⟨v,by rw [zaO e];exact j,l⟩
theorem Dr.some(r:Dr K H0 G kvs ds)(k):(valV kvs k).isSome=(getT ds k).isSome:=by
 induction r with
 | nil=>rfl
 | cons a b h=>
  rename_i i l j c g
  by_cases e:i=k
  . subst e;rw [zaG rfl,Jv];rfl
  . rw [zaO e,j8 e];exact h
theorem Dr.any(r:Dr K H0 G kvs ds)(k):(kvs.any fun kv=>decide (kv.1=k))=ds.any fun kv=>decide (kv.1=k):=by
 induction r with
 | nil=>rfl
 | cons a b c=>simp_all
theorem Dr.snoc(r:Dr K H0 G kvs ds)(a:Rf K H0 G true v d):Dr K H0 G (kvs++[(k,v)]) (ds++[(k,d)]):=by
 induction r with
 | nil=>exact .cons a .nil
 | cons a b c=>exact .cons a c
theorem Dr.repl(r:Dr K H0 G kvs ds)(a:Rf K H0 G true v d):Dr K H0 G (kvs.map fun kv=>if kv.1=k then(kv.1,v) else kv) (ds.map fun kv=>if kv.1=k then(kv.1,d) else kv):=by
 induction r with
 | nil=>exact .nil
 | cons b c g=>
  rename_i j m l h i;rw [Ya1,Ya1]
  by_cases e:j=k
  . rw [if_pos e,if_pos e];exact .cons a g
  . rw [if_neg e,if_neg e];exact .cons b g
theorem Dr.put(r:Dr K H0 G kvs ds)(a:Rf K H0 G true v d):Dr K H0 G (putK kvs k v) (putT ds k d):=by
 unfold putK putT;rw [r.any]
 split
 . exact r.repl a
 . exact r.snoc a
theorem Dr.length(r:Dr K H0 G kvs ds):kvs.length=ds.length:=by
 induction r with
 | nil=>rfl
 | cons a b c=>simp_all
theorem Ju(F:Fr3 K H0 G0 ρ σ G H){i:Nat}{ds:List (List Key×D)}(h:ρ[i]?=.some (.some (.dt ds))):∃ l kvs,σ[i]?=.some (.some (.ref l))/\H l=.some (.dT kvs)/\Dr K H0 G kvs ds/\G l=none:=by
 obtain⟨v,g,e⟩:=F.slot i _ h;cases e with
 | dt a b c=>exact⟨_,_,g,a,b,c⟩
end
section
variable{a b:Expr}{x:Str}
def zav(i:Nat):TS3:=fun A ρ=>A.nx (ρ.set i (some (.dt [])))
theorem zc2{pos' p:Pos}(l:X.N.Nodup)(e:X.N[i]?=some x)(g:Loc X.env.scope x)(j:swapsWith (.Dict [] [] p) (some (.Name x pos')) pos.line X.env=pure false:=by rfl)
 (c:X.fn x=true\/X.env.scope.names.lookup x=some .local:=by first|exact .inl rfl|exact .inr rfl|assumption):PS3 X H0 (.Assign [.Name x pos'] (.Dict [] [] p) pos) (zav i):=PS.imp (jd l e g zmL j c) fun B σ H=>el7 fun m A ρ G F q L=>
 fun p b=>L.nx _ _ G _ (F.put (zx b _).x (.dt zf .nil (F.sub.free b)) fun a h=>by cases h;exact b) q
noncomputable abbrev kk(a b:Int):List Key:=[.inl a,.inl b]
def ZY(i:Nat)(ta tb te:TE3):TS3:=fun A ρ=>∃ ds,ρ[i]?=some (some (.dt ds))/\te ρ fun c=>ta ρ fun ka=>tb ρ fun kb=>∃ d m n,c=.sh true d/\ka=.sh true (.int m)/\kb=.sh true (.int n)/\ds.length<sizeLine/\A.nx (ρ.set i (some (.dt (putT ds (kk m n) d))))
theorem zj4{ta tb te:TE3}{np tp spos:Pos}{k1}(U:X.A.units+1<cLine)(hN:X.N[i]?=some x)(Q:Vis X.env.scope x)(N:PE3 X H0 a ta)(O:PE3 X H0 b tb)(J:PE3 X H0 e te)(hd:(x==("__debug__" : Str))=false:=by decide)(C:(x==("__classdict__" : Str))=false:=by decide)
 (y:starEach [a,b] X.env=(false,eval a X.env)::starEach [b] X.env:=by rfl) (u:starEach [b] X.env=(false,eval b X.env)::starEach [] X.env:=by rfl)
 (hs:swapsWith e (some (.Subscript (.Name x np) (.Tuple [a,b] k1 tp) spos)) pos.line X.env=pure false:=by rfl):PS3 X H0 (.Assign [.Subscript (.Name x np) (.Tuple [a,b] k1 tp) spos] e pos) (ZY i ta tb te):=by
 refine PS.imp (Jj U (z9 hN Q hd C) (zbS (zn N.ok (zn O.ok zJ u) y)) J.ok hs) fun B σ H z=>?_
 refine Hd fun k V=>?_;obtain⟨w,A,ρ,G,F,⟨ds,r,q⟩,L⟩:=z;apply V;refine⟨w,ρ,G,F,J.mono ρ _ _ (fun c q1 v Y H1 g1 w1=>?_) q⟩
 have j:=F.gr g1;obtain⟨l,a0,I,_,_,_⟩:=Ju j r;refine⟨_,I,w,ρ,Y,j,N.mono ρ _ _ (fun ka W v2 G2 H2 E w2=>?_) q1⟩
 refine⟨w,ρ,G2,j.gr E,O.mono ρ _ _ (fun kb S v3 G3 H3 s w3=>?_) W⟩
 refine Hd fun k V=>?_;obtain⟨d,m,n,e1,T,e3,Z,q4⟩:=S;apply V;subst e1 T e3;cases zv (zm w2).rd;cases zv (zm w3).rd;refine⟨show 2<=sizeLine by decide,fun p hp=>?_⟩
 have P:=((j.gr E).gr s).gr (Gr.apart (o:=.tup [.int m,.int n]) s.sub hp);obtain⟨l',M,g,R,K,k4⟩:=Ju P r;rw [I] at g;cases g;have rv:=(zm w1).same (E.g.trans s.g);exact⟨l,_,rfl,DPut.t R zf (by rw [K.length];exact Z),L.nx _ _ _ _ (P.chg (c':=.dt (putT ds _ d)) r I rfl (fun _ h=>h) (.dt zf (K.put rv) k4)) q4⟩
end
end L3
namespace L2
open PySem PySem.Spec PyProof.Rows
end L2
namespace L3
open PySem PySem.Spec PyProof.Rows L2
variable[LamW]
section
variable{p:Pos}
def slT3(te:TE3)(tl th:TO3):TE3:=fun ρ Q=>te ρ fun c=>tl ρ fun l=>th ρ fun u=>asS c fun f d=>asT d fun ds=>¬(HT.sIx ds.length 0 l=0/\HT.sIx ds.length ds.length u=ds.length)/\Q (.sh (f||ds.all zt) (.tuple (cut ds l u)))
theorem zeL{e:Expr}{lo hi:Option Expr}{te:TE3}{tl th:TO3}{p2:Pos}(g:PE3 X H0 e te)(s:PO3 X H0 lo tl)(j:PO3 X H0 hi th):PE3 X H0 (.Subscript e (.Slice lo hi none p2) pos) (slT3 te tl th):=by
 refine⟨fun ρ Q R h q=>g.mono ρ _ _ (fun c=>s.mono ρ _ _ fun l=>j.mono ρ _ _ fun u q=>?_) q,PE.imp (zeO ziU g.ok s.ok j.ok) fun σ H Q=>el5 fun n ρ G F q=>?_⟩
 . obtain⟨f,d,rfl,q⟩:=j6 q
   obtain⟨J,rfl,z,q⟩:=Z3 q;exact⟨z,h _ q⟩
 . refine⟨n,ρ,G,F,g.mono ρ _ _ (fun c y v A P m C=>⟨n,ρ,A,F.gr m,s.mono ρ _ _ (fun l B E S o=>⟨n,ρ,E,F.gr (m.trans o),j.mono ρ _ _ (fun u O U T b=>?_) B⟩) y⟩) q⟩
   have K:=(C.gr o).gr b;have I:=(m.trans o).trans b;obtain⟨f,d,rfl,q⟩:=j6 O;obtain⟨J,rfl,z,q⟩:=Z3 q;obtain⟨a,N,rfl,L,w⟩:=Jr (zm K);refine⟨a,N,rfl,b.sub.tup L,by rw [w.length];exact z,fun p i=>q _ _ _ (I.trans (Gr.put b.sub i)) ?_⟩
   have r:=zdX w.or l u;exact .sh ⟨.tup (SqT.of zf) (rdvs_same (zx (b.sub.free i) _) r.rd),fun M=>.tup zf (rdns_mono (zx (b.sub.free i) _) (fun _ _ _ z=>z) (r.nw M))⟩
end
variable[LamW]
section
variable{ρ: Env3}
end
end L3
namespace L2
open PySem PySem.Spec PyProof.Rows
end L2
namespace L3
open PySem PySem.Spec PyProof.Rows L2
variable[LamW]
section
variable{a b:Expr}
theorem Rfs.rep{ds:List D}(r:Rfs K H0 G f vs ds)(n):Rfs K H0 G f (Xb n vs).flatten (Xb n ds).flatten:=by
 induction n with
 | zero=>exact Rfs.nil
 | succ n a=>
  have:=Rfs.append r a;rwa [Wbf] at this
end
end L3
namespace L2
open PySem PySem.Spec PyProof.Rows
theorem zk6:zM X (.type "int") (fun xs H Q=>∃ b:Bool,xs=[.bl b]/\Q (.int (if b then 1 else 0)) H):=by
 intro a s σ H xs e Q I r h;obtain⟨b,rfl,q⟩:=h;obtain⟨u,rfl,c⟩:=Jl r;cases c;exact call_int_bool ⟨.int _,H,I.tok _,⟨_,rfl⟩,q⟩
end L2
namespace L3
open PySem PySem.Spec PyProof.Rows L2
variable[LamW]
def intB3:C3:=fun cs Q=>match cs with
 | [.sh _ (.bool b)]=>Q true (.int (if b then 1 else 0))
 | _=>False
theorem zlc:CallOk X (.type "int") intB3:=by
 refine⟨fun b Q e h q=>?_,fun c=>zM.imp zk6 fun g H Q=>el2 fun G b s w q=>?_⟩
 . unfold intB3 at *;split at q
   . exact h _ _ q
   . exact q
 . unfold intB3 at q;split at q
   . obtain⟨v,rfl,a⟩:=vws1 w
     have r:=(zm a).rd;cases r;exact⟨_,rfl,q _ G H (Gr.refl s) (.sc rfl (.int _))⟩
   simp_all
end L3
namespace L2
open PySem PySem.Spec PyProof.Rows
theorem zdP{v:Value}{T:String}{Q:Option Value->Shared->Prop}(S:Slot T name id)(h:s.TypeIs v T)(q:Q (some (.builtin id)) s):wpAny M A (specialOf v name) Q E s:=by
 refine wpAny_bind (wpAny_typeOf h ?_)
 rw [S.lookup];exact wpAny_pure q
theorem zie(e:o.ExactDict)(b:o.data=.dict es ep)(g:(d==sysModules)=false) :
 Meets (Builtin.«dict.__iter__» { pos:=[Xs d] }) fun A R s=>s.heap.get? d=some o/\R (.ok (.ret (.ref s.heap.objs.size))) { s with heap:=s.heap.push { cls:=.type "dict_keyiterator", data:=.fields #[.ref d,.int 0 0,.int es.size 0,.int ep 0] } }:=by
 intro c w A R s h;obtain⟨a,q⟩:=h;refine wpAny_bind (wpAny_bind (wpAny_notOrdered_dict ⟨o,a,e.1⟩ ?_));refine wpAny_bind (wpAny_pure (wpAny_pure ?_));unfold Builtin.Dict.addrOf Builtin.Dict.showsAll;refine wpAny_bind (wpAny_pure ?_);rw [g];refine wpAny_bind (wpAny_pure ?_);refine wpAny_bind (wpAny_dictEntries a b ?_);refine wpAny_bind (wpAny_dictEpoch a b ?_);refine wpAny_bind (wpAny_newObj_type ?_)
 exact wpAny_pure q
theorem zl5(c:s.heap.get? d=some o)(b:o.ExactDict)(g:o.data=.dict es ep)(e:(d==sysModules)=false)
 (q:Q (.ref s.heap.objs.size) { s with heap:=s.heap.push { cls:=.type "dict_keyiterator", data:=.fields #[.ref d,.int 0 0,.int es.size 0,.int ep 0] } }):wpAny (model prog w) A (pyIter (.ref d)) Q E s:=by
 have a:s.TypeIs (.ref d) _:=⟨o,c,b.1⟩;refine wpAny_bind (zdP Wap a ?_);refine wpAny_bind (wpAny_callSpecialIfBoundUnlessNone?_slot a Wap ?_);refine call_meets Wap a PySem.F.entry_dict_iter (PySem.F.args_dict_iter_1 _) (zie b g e) ⟨c,?_⟩;refine wpAny_bind (zdP Waa ⟨_,Yan _ rfl,rfl⟩ ?_)
 exact wpAny_pure q
theorem zl9{e:DictEntry}(l:o.data=.dict es ep)(v:es[i]?=some e) :
 Meets (Builtin.«dict_keyiterator.__next__» { pos:=[Xs it] }) fun A R s=>s.heap.get? d=some o/\s.heap.IsKeyIter it d i es.size ep/\∀ h',h'.IsKeyIter it d (i+1) es.size ep->Yh it s.heap h'->R (.ok (.ret e.key)) { s with heap:=h' }:=by
 intro m w A R s h;obtain⟨u,j,q⟩:=h;have a:=j.typeIs;unfold Builtin.«dict_keyiterator.__next__»;refine wpAny_bind ?_;unfold Builtin.Dict_items.slot0 slotArgs;refine wpAny_bind (wpAny_pure (wpAny_pure ?_));refine wpAny_bind ?_;refine wpAny_bind ?_;refine wpAny_bind ?_;refine wpAny_typeNameOfWhole_keyiter a ?_;refine wpAny_pure ?_;obtain⟨⟨C,F,G,E⟩,b,p,g⟩:=id j;simp only at p g;subst p g;have n:(if Builtin.Dict_items.ownsTuple "dict_keyiterator" = true then 2 else 0)=0:=#[1]
 rw [n];refine wpAny_bind (wpAny_fieldsOf b rfl ?_);show wpAny _ _ (if(Xs d==Uc)=true then _ else _) _ _ _
 rw [if_neg (by intro z;cases z)]
 refine wpAny_bind (wpAny_pure ?_)
 refine wpAny_bind (wpAny_dictEntries u l ?_)
 dsimp only;rw [if_neg (by simp)]
 refine wpAny_bind (wpAny_pure ?_)
 refine wpAny_bind (wpAny_dictEpoch u l ?_)
 rw [if_neg (by simp)]
 refine wpAny_pure ?_
 dsimp only;rw [if_neg #[0],Xi,v]
 dsimp only;refine wpAny_bind ?_;refine wpAny_bind (wpAny_typeNameOfWhole_keyiter a (wpAny_pure ?_));rw [n];refine wpAny_bind (wpAny_isOneOf_keyiter a ?_);generalize y:(List.any _ _)=B;have c:B=false:=by rw [<-y];rfl
 subst c;refine wpAny_bind (wpAny_setField b rfl (show 1<4 by decide) ?_)
 have r:(s.heap.update it (Obj.mapFields fun x=>x.setIfInBounds (0+1) (rawInt (if false=true then(i:Int) - 1 else(i:Int)+1)))).IsKeyIter it d (i+1) es.size ep:=by
  exact⟨_,Wat _ b rfl,rfl,rfl⟩
 refine wpAny_bind (wpAny_holding ?_)
 refine wpAny_bind (wpAny_isOneOf_keyiter r.typeIs ?_)
 rw [if_pos #[1]]
 exact wpAny_pure (wpAny_pure (q _ r (WaB _ _ _)))
theorem zfG{T:String}{Q:Option Value->Shared->Prop}(S:Slot T name id)(h:s.TypeIs self T)(q:wpAny M A (call (.builtin id) [self]) (fun v=>Q (some v)) E s):wpAny M A (callSpecial? self name) Q E s:=by
 refine wpAny_bind (zdP S h ?_)
 refine wpAny_holding ?_
 rw [S.bind];refine wpAny_bind (wpAny_pure ?_);refine wpAny_bind (wpAny_mono q (fun v a h=>?_) fun _ _ h=>h)
 exact wpAny_pure h
theorem zmB{prog:Program}{w:World}{A:Around}{E:Value->Shared->Prop}{s:Shared}{it:Addr}{o:Obj}{es:Array DictEntry}{ep i:Nat}{e:DictEntry}{Q:Option Value->Shared->Prop}(b:s.heap.get? d=some o)(c:o.data=.dict es ep)(h:es[i]?=some e)(a:s.heap.IsKeyIter it d i es.size ep)
 (q:∀ h',h'.IsKeyIter it d (i+1) es.size ep->Yh it s.heap h'->Q (some e.key) { s with heap:=h' }):wpAny (model prog w) A (pyNext (.ref it)) Q E s:=by
 refine wpAny_bind (wpAny_attempt ?_)
 refine zfG Waa a.typeIs ?_
 refine call_meets Waa a.typeIs X0 (XW _) (zl9 c h) ⟨b,a,fun h' k g=>?_⟩
 exact wpAny_pure (q h' k g)
theorem zlR{M:Model}{A:Around}{E:Value->Shared->Prop}{s:Shared}{Q:α->Shared->Prop}(a:A.handled=none)(q:∀ h' e,(∀ b o,s.heap.get? b=some o->h'.get? b=some o)->(∃ ob,h'.get? e=some ob/\ob.cls=.type "StopIteration")->E (.ref e) { s with heap:=h' }):wpAny M A (newExc (.type "StopIteration") [] >>= fun x=>raiseNew x) Q E s:=by
 refine wpAny_bind (wpAny_bind ?_)
 refine wpAny_newTuple ?_
 unfold firstArgMember;refine wpAny_bind (wpAny_bind (wpAny_pure (wpAny_pure ?_)));refine wpAny_newObj_type (wpAny_raiseNew_none a (q _ _ (fun b o e=>YaW _ (YaW _ e)) ⟨_,Yan _ rfl,rfl⟩)) ?_
 exact(show 6<=sizeLine+2 by decide)
theorem zkQ(j:o.data=.dict es ep)(v:es.size<=i) :
 Meets (Builtin.«dict_keyiterator.__next__» { pos:=[Xs it] }) fun A R s=>A.handled=none/\s.heap.get? d=some o/\s.heap.IsKeyIter it d i es.size ep/\∀ h' e,Uz it s.heap h'->({ s with heap:=h' }:Shared).TypeIs (.ref e) "StopIteration"->R (.error (.ref e)) { s with heap:=h' }:=by
 intro l w A R s h;obtain⟨B,r,c,q⟩:=h;have g:=c.typeIs;refine wpAny_bind ?_;refine wpAny_bind (wpAny_pure (wpAny_pure ?_));refine wpAny_bind ?_;refine wpAny_bind ?_;refine wpAny_bind ?_;refine wpAny_typeNameOfWhole_keyiter g ?_;refine wpAny_pure ?_;obtain⟨⟨E,G,H,F⟩,m,n,a⟩:=id c;simp only at n a;subst n a;have p:(if Builtin.Dict_items.ownsTuple "dict_keyiterator" = true then 2 else 0)=0:=#[1]
 rw [p];refine wpAny_bind (wpAny_fieldsOf m rfl ?_);refine wpAny_bind (wpAny_pure ?_);refine wpAny_bind (wpAny_dictEntries r j ?_);dsimp only;rw [if_neg (by simp)]
 refine wpAny_bind (wpAny_pure ?_)
 refine wpAny_bind (wpAny_dictEpoch r j ?_)
 rw [if_neg (by simp)]
 refine wpAny_pure ?_
 dsimp only;rw [if_neg #[0],Xi,Array.getElem?_eq_none v]
 dsimp only;refine wpAny_bind ?_;refine wpAny_bind (wpAny_typeNameOfWhole_keyiter g (wpAny_pure ?_));rw [p];refine wpAny_bind (wpAny_setField m rfl (show 0<4 by decide) ?_)
 refine zlR B fun h' e u y=>q h' e (fun b o C z=>u b o ?_) y
 exact(Heap.get?_update_ne _ _ _ _ C).trans z
theorem zlz{Q:Option Value->Shared->Prop}(b:A.handled=none)(c:s.heap.get? d=some o)(j:o.data=.dict es ep)(l:es.size<=i)(a:s.heap.IsKeyIter it d i es.size ep)
 (q:∀ h',Uz it s.heap h'->Q none { s with heap:=h' }):wpAny (model prog w) A (pyNext (.ref it)) Q E s:=by
 refine wpAny_bind (wpAny_attempt ?_)
 refine zfG Waa a.typeIs ?_
 refine call_meets Waa a.typeIs X0 (XW _) (zkQ j l) ⟨b,c,a,fun h' e h g=>?_⟩
 refine wpAny_bind (wpAny_isInstance g (by rfl) ?_)
 exact wpAny_pure (q h' h)
noncomputable def Itd(d:Addr)(o:Obj)(kvs:List (List Key×V))(as:List Addr):It:=⟨fun i H=>i<as.length/\H d=some (.frz o (.dT kvs)),fun i H x H'=>H'=H/\∃ a,as[i]?=some a/\x=.ref a,fun i H=>as.length<=i/\H d=some (.frz o (.dT kvs))⟩
theorem zno{P:Program}{w:World}{K:Ybf}{tg:Expr}(d it){o:Obj}{es:Array DictEntry}{ep:Nat}{as:List Addr}{kvs:List (List Key×V)}(N:o.data=.dict es ep)(y:es.toList.map (·.key)=as.map Xs):Turn P w K tg (Itd d o kvs as) [it] it (fun i h=>h.IsKeyIter it d i es.size ep) where
 mem:=by simp
 obj:=fun i h a b j=>by
  have e:b=it:=by simpa using j
  subst e;refine Hd fun x ζ=>?_;obtain⟨o,e,c,d⟩:=a;apply ζ;exact⟨o,e,fun v z=>by rw [d] at z;cases z⟩
 keep:=fun i h Q a k=>by
  refine Hd fun x ζ=>?_;obtain⟨o,e,c,d⟩:=a;apply ζ;exact⟨o,k it (by simp) o e,c,d⟩
 item:=by
  intro X C L q S i n s σ H E I p a r;subst C L q;obtain⟨m,F⟩:=r;obtain⟨M,_⟩:=(show zQ X.prog X.w H s.heap d (.frz o (.dT kvs)) from I.hok d _ F)
  refine Hd fun x ζ=>?_;obtain⟨B,A,f2,G,u,J⟩:=p it (by simp);apply ζ
  have g:es.toList.length=as.length:=by have:=congrArg Ya y;simpa using this
  have O:i<es.toList.length:=#[94]
  have U:es.toList[i].key=.ref as[i]:=by
   have R:(es.toList.map (·.key))[i]?=(as.map Xs)[i]?:=by rw [y]
   rw [Ya0,Ya0,YaQ O,YaQ m] at R;exact Wa3 R
  refine zmB M N (e:=es.toList[i]) (by rw [<-Array.getElem?_toList];exact YaQ O) a fun Q l Z=>?_
  have T:=I.turned (t':=s.toks) (fun b o j e=>(Z.2 b j).trans e) B A G u J
  refine⟨_,rfl,letGo_keyiter l ⟨.ref as[i],H,T,?_,⟨rfl,as[i],YaQ m,rfl⟩,l,fun b j=>(p b j).1⟩⟩
  rw [U];exact rfl
 done:=by
  intro X C L q S i n s σ H E I p a r;subst C L q;obtain⟨W,F⟩:=r;obtain⟨M,_⟩:=(I.hok d _ F);refine Hd fun x ζ=>?_;obtain⟨B,A,f2,G,u,J⟩:=p it (by simp);apply ζ
  have g:es.toList.length=as.length:=by have:=congrArg Ya y;simpa using this
  exact zlz (I.ok.hd S) M N (by rw [Yt] at g;lia) a fun Q Y=>⟨rfl,I.turned (t':=s.toks) (fun b o j e=>Y b o j e) B A G u J⟩
 self:=fun _ _ _ _ _ a h=>wpAny_pyIter_keyiter a h
def zkZ(tl:TE):TI:=fun σ H R=>tl σ H fun v H1=>∃ d o kvs es ep as,v=.ref d/\H1 d=some (.frz o (.dT kvs))/\o.ExactDict/\o.data=.dict es ep/\es.toList.map (·.key)=as.map Xs/\R (Itd d o kvs as) H1
theorem zl6{l:Expr}(p:PE X l tl):PI X tg l (zkZ tl):=by
 intro g s σ H R I h;refine thn (p _ s σ H _ I h) fun v C ξ=>?_
 refine Hd fun ν ζ=>?_;obtain⟨x,i,a,m,n⟩:=ξ;apply ζ;refine Hd fun G k=>?_;obtain⟨d,o,z,F,E,B,rfl,w,j,c,u,q⟩:=n;apply k;cases m;obtain⟨y,_,A,_⟩:=(a.hok d _ w);refine zl5 y j c A ?_;refine⟨_,_,_,_,i,rfl,a.kept fun b o e=>YaW _ e,zno d _ c u,⟨_,Yan _ rfl,rfl,rfl⟩,fun b r=>?_,q⟩
 have e:=by simpa using r
 subst e;exact a.fpOk (YaY _) (a.hok.fresh (YaY _))
theorem zfp{α β : Type}{F:α->β->Prop}:∀ {l:List α} {m:List β},Paired F l m->∀ {j:Nat} {a:α} {b:β},l[j]?=some a->m[j]?=some b->F a b:=by
 intro l m h;induction h with
 | nil=>intro j a b h;simp at h
 | cons x _ f=>
  intro j a b h g;cases j with
  | zero=>simp_all
  | succ j=>exact f h g
theorem zk2(h:PS X st t):PS X st (fun B σ H=>∃ l kvs,H l=some (.dT kvs)/\∀ (o:Obj) (es:Array DictEntry) (ep:Nat) (as:List Addr),o.ExactDict->o.data=.dict es ep->es.toList.map (·.key)=as.map Xs->as.length=kvs.length->(∀ (j:Nat) (a:Addr) (k:List Key) (v:V),as[j]?=some a->kvs[j]?=some (k,v)->H a=some (.tup (k.map kV)))->t B σ (upd H l (.frz o (.dT kvs)))):=by
 intro g s σ H B I hyp;refine Hd fun O Y=>?_;obtain⟨l,kvs,A,q⟩:=hyp;obtain⟨hz,hs,xs,n,o,es,ep,ho,J,G,c,hnd⟩:=(I.hok l _ A);apply Y;have hlen:=Wbd n;have r:∀ (j:Nat) (a:Addr) (k:List Key) (v:V),(xs.map (·.2.1))[j]?=some a->kvs[j]?=some (k,v)->H a=some (.tup (k.map kV)):=fun j a k v C hk=>by
  rw [Ya0] at C;cases e:xs[j]? with
  | none=>simp_all
  | some y=>
   rw [e] at C;cases C;exact(zfp n hk e).2.1
 have Q:Inv X g σ (upd H l (.frz o (.dT kvs))) s:=by
  refine I.write (by rw [A];exact XF) (.inl rfl) (fun _ _ _ e=>e) ⟨o,ho⟩ ⟨ho,hz,hs,xs,Paired.mapP n fun p y ⟨M,h2,N⟩=>⟨M,(zc (fun z=>by rw [z,A] at h2;cases h2)).trans h2,N⟩,o,es,ep,ho,J,G,c,hnd⟩
 refine h _ s σ _ B Q (q o es ep _ J G ?_ (by grind) r)
 rw [c,YaD,YaD]
 rfl
structure M1(X:Cx)(o:Expr)(m:Str)(apos:Pos)(e:Expr)(cpos:Pos):Prop where
 base:attributeBase o m X.env (eval o X.env)=eval o X.env
 few:((backTo cpos (starEach [e] X.env)).all (fun x=>!x.1)&&(backToKw cpos (keywordEach [] X.env)).all (fun x=>x.1.isSome)
  && decide (([e]:List Expr).length+([]:List Keyword).length+(if([]:List Keyword).isEmpty then 0 else 1)<30))=true
 line:(apos.endLine==cpos.line)=true
 trees:backTo cpos (starEach [e] X.env)=[(false,eval e X.env)]
structure M2(X:Cx)(o:Expr)(m:Str)(apos:Pos)(e f:Expr)(cpos:Pos):Prop where
 base:attributeBase o m X.env (eval o X.env)=eval o X.env
 few:((backTo cpos (starEach [e,f] X.env)).all (fun x=>!x.1)&&(backToKw cpos (keywordEach [] X.env)).all (fun x=>x.1.isSome)
  && decide (([e,f]:List Expr).length+([]:List Keyword).length+(if([]:List Keyword).isEmpty then 0 else 1)<30))=true
 line:(apos.endLine==cpos.line)=true
 trees:backTo cpos (starEach [e,f] X.env)=[(false,eval e X.env),(false,eval f X.env)]
def IsD(H:Hp)(a:Addr):Prop:=(∃ kvs,Rd H a (.dK kvs))\/∃ kvs,Rd H a (.dT kvs)
theorem ze4(I:Inv X pins σ H s)(d:IsD H a) :
 s.TypeIs (.ref a) "dict"/\(∀ b,Xs a=.ref b->∃ ob,s.heap.get? b=some ob/\ob.dict=none)/\(a==sysModules)=false:=by
 rcases d with ⟨j,e⟩|⟨j,e⟩
 . obtain⟨_,i,l,_,c⟩:=JH I.hok e
   refine⟨c.typeIs,fun b q=>?_,i⟩
   cases q;obtain⟨ob,_,_,g,h,_⟩:=c
   exact⟨ob,g,h.2.1⟩
 . obtain⟨_,i,m,_,c⟩:=Jz I.hok e
   refine⟨c.typeIs,fun b q=>?_,i⟩
   cases q;obtain⟨ob,_,_,g,h,_⟩:=c
   exact⟨ob,g,h.2.1⟩
section
variable{y d:V}{r:Value}{o:Option V}
theorem zmT(q:A.units+1<cLine)(I:Inv X pins σ H s)(g:DGet H a y o)(p:RelV y u)(h:∀ w' s',Inv X pins σ H s'->RelV (o.getD .non) w'->Q w' s') :
 wpAny (model X.prog X.w) A (call (.builtin "dict.get") [.ref a,u]) Q E s:=by
 rcases g with ⟨n,k,e,j,l⟩|⟨n,k,b,e,j,v,l⟩
 . subst j
   obtain⟨z,m,w,c,i⟩:=JH I.hok e;refine call_meetsIn Wau i.typeIs Waq (Y2 _ _) (meets_dict_get _ a (JN p) m) ⟨_,i.mapOf,h _ _ (I.tok _) ?_⟩;rw [l];exact(c.val k).getD rfl
 . subst j
   cases(p)
   obtain⟨z,m,r,c,i⟩:=Jz I.hok e;refine call_meetsIn Wau i.typeIs Waq (Y2 _ _) (meetsH_dict_get _ a b m) ⟨tupleKind_room_in1 q,k,r,J6 I.hok v,i,h _ _ (I.tok _) ?_⟩;rw [l];exact(c.val k).getD rfl
theorem zmw(v:A.units+1<cLine)(I:Inv X pins σ H s)(g:DGet H a y o)(q:RelV y u)(p:RelV d r)(h:∀ w' s',Inv X pins σ H s'->RelV (o.getD d) w'->Q w' s') :
 wpAny (model X.prog X.w) A (call (.builtin "dict.get") [.ref a,u,r]) Q E s:=by
 rcases g with ⟨n,k,e,j,l⟩|⟨n,k,b,e,j,B,l⟩
 . subst j
   obtain⟨z,m,C,c,i⟩:=JH I.hok e;refine call_meetsIn Wau i.typeIs Waq (Y3 _ _ _) (meets_dict_get_default _ a (JN q) m r) ⟨_,i.mapOf,h _ _ (I.tok _) ?_⟩;rw [l];exact(c.val k).getD p
 . subst j
   cases(q)
   obtain⟨z,m,w,c,i⟩:=Jz I.hok e;refine call_meetsIn Wau i.typeIs Waq (Y3 _ _ _) (meetsH_dict_get_default _ a b m r) ⟨tupleKind_room_in1 v,k,w,J6 I.hok B,i,h _ _ (I.tok _) ?_⟩;rw [l];exact(c.val k).getD p
end
def zi0(td ty:TE):TE:=fun σ H Q=>td σ H fun x H1=>∃ a,x=.ref a/\IsD H1 a/\ty σ H1 fun y H2=>∃ o,DGet H2 a y o/\Q (o.getD .non) H2
def zlT(td ty tx:TE):TE:=fun σ H Q=>td σ H fun x H1=>∃ a,x=.ref a/\IsD H1 a/\ty σ H1 fun y H2=>tx σ H2 fun z H3=>∃ o,DGet H3 a y o/\Q (o.getD z) H3
section
variable{o f:Expr}{td ty tx:TE}
theorem zev(r:X.A.units+1<cLine)(p:PE X o td)(l:PE X e ty)(m:M1 X o "get" apos e cpos):PE X (.Call (.Attribute o "get" apos) [e] [] cpos) (zi0 td ty):=by
 intro i s σ H Q I h;refine wpAny_Call_method m.base m.few m.line Wak Wau Wi (thn (p _ s σ H _ I h) fun u v ξ=>?_)
 refine Hd fun ν ζ=>?_;obtain⟨x,n,c,E,a,j,d,F⟩:=ξ;apply ζ;subst j;obtain rfl:u=Xs a:=E;obtain⟨q,A,_⟩:=ze4 c d;refine⟨q,A,?_⟩;rw [m.trees];refine X7 rfl (Wax (WaD (thn (l _ v σ n _ c F) fun M J ⟨y,B,C,z,L,g,w⟩=>YQ ?_)))
 exact zmT r C g z fun N K G b=>⟨_,B,G,b,w⟩
theorem zjf(w:X.A.units+1<cLine)(r:PE X o td)(p:PE X e ty)(G:PE X f tx)(m:M2 X o "get" apos e f cpos):PE X (.Call (.Attribute o "get" apos) [e,f] [] cpos) (zlT td ty tx):=by
 intro i s σ H Q I h;refine wpAny_Call_method m.base m.few m.line Wak Wau Wi (thn (r _ s σ H _ I h) fun u A ξ=>?_)
 refine Hd fun ν ζ=>?_;obtain⟨x,q,c,N,a,j,d,O⟩:=ξ;apply ζ;subst j;obtain rfl:u=Xs a:=N;obtain⟨v,J,_⟩:=ze4 c d;refine⟨v,J,?_⟩;rw [m.trees];refine X7 rfl (Wax (WaD (thn (p _ A σ q _ c O) fun T n ⟨y,K,M,C,B⟩=>
  WaD (thn (G _ n σ K _ M B) fun U R ⟨z,L,P,F,S,g,l⟩=>YQ ?_))))
 exact zmw w P g C F fun W Y E b=>⟨_,L,E,b,l⟩
end
end L2
namespace L3
open PySem PySem.Spec PyProof.Rows L2
variable[LamW]
noncomputable def keyT(k:List Key):D:=.tuple (k.map keyD)
section
variable{ρ: Env3}
theorem Fr3.frzD(F:Fr3 K H0 G0 ρ σ G H){i:Nat}{ds:List (List Key×D)}{l:Addr}{kvs:List (List Key×V)}(S:ρ[i]?=some (some (.dt ds)))(L:σ[i]?=some (some (.ref l)))(Q:H l=some (.dT kvs))(r:Dr K H0 G kvs ds)(hG:G l=none){o:Obj}{es:Array DictEntry}{ep:Nat}{as:List Addr}(hx:o.ExactDict)(he:o.data=.dict es ep)(ha:es.toList.map (·.key)=as.map Xs)(hn:as.length=kvs.length)
 (R:∀ (j:Nat) (a:Addr) (k:List Key) (v:V),as[j]?=some a->kvs[j]?=some (k,v)->H a=some (.tup (k.map kV))):∃ G',Same G G'/\Fr3 K H0 G0 (ρ.set i (some (.fd ds))) σ G' (upd H l (.frz o (.dT kvs))):=by
 have g:∀ a∈as,∃ p,H a=some (.tup p):=fun a h=>by
  obtain⟨j,hj,e⟩:=Yam h;have P:j<kvs.length:=#[0]
  exact⟨_,R j a kvs[j].1 kvs[j].2 (by rw [YaQ hj,e]) (YaQ P)⟩
 have M:l∉as:=fun h=>by
  obtain⟨p,e⟩:=g l h;rw [Q] at e;cases e
 have Y:H0 l=none:=F.mine i _ _ l S L rfl;have J:(fun b=>if b=l then some (.frz o (.dT kvs)) else if b∈as then H b else G b:Hp) l=some (.frz o (.dT kvs)):=if_pos rfl
 have w:∀ b,b≠l->b∈as->(fun b=>if b=l then some (.frz o (.dT kvs)) else if b∈as then H b else G b:Hp) b=H b:=fun b n m=>by simp only [if_neg n,if_pos m]
 have s:∀ b,b≠l->b∉as->(fun b=>if b=l then some (.frz o (.dT kvs)) else if b∈as then H b else G b:Hp) b=G b:=fun b n m=>by simp only [if_neg n,if_neg m]
 generalize (fun b=>if b=l then some (.frz o (.dT kvs)) else if b∈as then H b else G b:Hp)=G' at J w s
 have I:Same G G':=fun b u e=>by
  have c:b≠l:=(fun z=>by rw [z,hG] at e;cases e)
  by_cases m:b∈as
  . rw [w b c m];exact F.sub.s b u e
  . rw [s b c m];exact e
 refine⟨G',I,F.keep.chg Y Q (fun f z=>by cases z),⟨fun b u e=>?_,fun b f e=>?_⟩,fun b u e=>?_,F.g0.trans I,fun j A e=>?_,fun j A O a e e' h=>?_,fun j k Z A v1 O a q1 q2 q3 q4 E B=>?_,by rw [YaN];exact F.len⟩
 . by_cases c:b=l
   . subst c;rw [J] at e;rw [zf];exact e
   . rw [zc c]
     by_cases m:b∈as
     . rw [w b c m] at e;exact e
     . rw [s b c m] at e;exact F.sub.s b u e
 . by_cases c:b=l
   . subst c;rw [J] at e;cases e
   . by_cases m:b∈as
     . obtain⟨p,z⟩:=g b m
       rw [w b c m,z] at e;cases e
     . rw [s b c m] at e;exact F.sub.cl b f e
 . by_cases c:b=l
   . subst c;exact .inr (.inl Y)
   . by_cases m:b∈as
     . obtain⟨p,z⟩:=g b m
       rw [w b c m,z] at e;exact .inr (.inr ⟨p,(Wa3 e).symm⟩)
     . rw [s b c m] at e;exact F.old b u e
 . rcases zF e with ⟨rfl,q,_⟩|⟨n,q⟩
   . cases q
     refine⟨_,L,.fd J (r.same I) ⟨es,ep,as,hx,he,ha,hn,fun j a k v W z2=>?_⟩⟩
     have T:a∈as:=Yah W;rw [w a (fun z=>M (z ▸ T)) T]
     exact R j a k v W z2
   . obtain⟨X,E,B⟩:=F.slot j A q
     refine⟨X,E,B.turn I (fun a C z=>?_) fun a U=>?_⟩
     . rw [zc (fun y=>by rw [y,Q] at z;cases z)];exact z
     . have c:a≠l:=fun z=>n (F.apart i j _ A _ X a S q L E (by rw [z];rfl) U)
       refine⟨zc c,s a c fun m=>?_⟩
       obtain⟨p,z⟩:=g a m;exact B.ntup U p z
 . rcases zF e with ⟨rfl,q,_⟩|⟨n,q⟩
   . cases q;exact Xj h
   . exact F.mine j A O a q e' h
 . rcases zF q1 with ⟨rfl,q,_⟩|⟨n,q⟩
   . cases q;exact Xj E
   . rcases zF q2 with ⟨rfl,N,_⟩|⟨n',N⟩
     . cases N;exact Xj B
     . exact F.apart j k Z A v1 O a q N q3 q4 E B
theorem zdA(F:Fr3 K H0 G0 ρ σ G H){i:Nat}{ds:List (List Key×D)}(h:ρ[i]?=some (some (.fd ds))):∃ l o kvs,σ[i]?=some (some (.ref l))/\G l=some (.frz o (.dT kvs))/\Dr K H0 G kvs ds/\KAt G o kvs:=by
 obtain⟨v,g,e⟩:=F.slot i _ h;cases e with
 | fd a b c=>exact⟨_,_,_,g,a,b,c⟩
theorem Dr.keys(r:Dr K H0 G kvs ds):kvs.map (·.1)=ds.map (·.1):=by
 induction r with
 | nil=>rfl
 | cons a b c=>simp_all
end
section
variable{x:Str}
def frzD(i:Nat)(t:TS3):TS3:=fun A ρ=>∃ ds,ρ[i]?=some (some (.dt ds))/\t A (ρ.set i (some (.fd ds)))
theorem zdU(i:Nat){t:TS3}(h:PS3 X H0 st t):PS3 X H0 st (frzD i t):=PS.imp (zk2 h) fun B σ H a=>by
 refine Hd fun k Q=>?_;obtain⟨m,A,ρ,G,F,⟨J,c,q⟩,L⟩:=a;obtain⟨l,b,g,e,r,w⟩:=Ju F c;apply Q;refine⟨l,b,e,fun o E C z p n u v j=>?_⟩
 obtain⟨y,I,s⟩:=F.frzD c g e r w p n u v j;exact⟨m,A,_,y,s,q,L⟩
def itD(i:Nat):TI3:=fun ρ Q=>∃ ds,ρ[i]?=some (some (.fd ds))/\Q true (ds.map fun kv=>keyT kv.1)
theorem zfF{tg:Expr}{np:Pos}(Y:X.N[i]?=some x)(C:Vis X.env.scope x)(g:(x==("__debug__" : Str))=false:=by decide)(s:(x==("__classdict__" : Str))=false:=by decide):PI3 X H0 tg (.Name x np) (itD i):=
 ⟨fun ρ Q Z h zz0 => by obtain ⟨z,e,q⟩ := zz0; exact ⟨z,e,h _ _ q⟩,PI.imp (zl6 (z9 Y C g s)) fun σ H R=>el5 fun G0 ρ G F q=>by
  obtain⟨z,J,q⟩:=q;refine Hd fun k V=>?_;obtain⟨l,o,b,S,v,A,T,L,O,N,W,I,M,U⟩:=zdA F J;apply V;refine⟨.ref l,S,l,o,b,T,L,O,rfl,F.sub.s _ _ v,N,W,I,q _ G H (Gr.refl F.sub) ?_⟩;have m:=A.length;refine⟨fun j d B E g p n=>?_,fun j B E r p n=>⟨by simp_all,n.s _ _ (p _ _ v)⟩⟩
  have r:=(Ya8.mp g).1;rw [YaR] at r;refine⟨⟨by rw [M,m];exact r,n.s _ _ (p _ _ v)⟩,fun y H2 ⟨e,a,P,K⟩=>?_⟩
  subst e K;have w:j<b.length:=#[94]
  have c:b[j].1=z[j].1:=by
   have:=congrArg (fun l=>l[j]?) A.keys
   simp_all
  have u:=p _ _ (U j a b[j].1 b[j].2 P (YaQ w));rw [Ya0,YaQ r] at g;cases g;rw [c] at u;exact⟨B,Gr.refl n,.tup (SqT.of u) (zas _),fun _=>.tup u (zbj _)⟩⟩
theorem zcF{K:Ybf}{G:Hp}:∀ {k:List Key} {xs:List V},RdVs K G xs (k.map keyD)->xs=k.map kV:=by
 intro k;induction k with
 | nil=>intro _ h;cases h;rfl
 | cons i r f=>intro _ h;cases i<;>(cases h with|cons a t=>cases a;rw [f t];rfl)
theorem zdi(r:Rf K H0 G true v (keyT k)):∃ b,v=.ref b/\G b=some (.tup (k.map kV)):=by
 have n:=r.nw rfl;cases n with
 | tup q a=>exact⟨_,rfl,by rw [zcF (rdns_rd a)] at q;exact q⟩
def ZX(i:Nat)(tk:TE3):TE3:=fun ρ Q=>∃ ds,ρ[i]?=some (some (.fd ds))/\tk ρ fun c=>∃ k d,c=.sh true (keyT k)/\getT ds k=some d/\Q (.sh true d)
theorem zg4{tk:TE3}{ke:Expr}{np:Pos}(y:X.A.units+1<cLine)(O:X.N[i]?=some x)(j:Vis X.env.scope x)(m:PE3 X H0 ke tk)(s:(x==("__debug__" : Str))=false:=by decide)(p:(x==("__classdict__" : Str))=false:=by decide)(J:NoSl ke:=by exact fun _ _=>rfl):PE3 X H0 (.Subscript (.Name x np) ke pos) (ZX i tk):=by
 refine⟨fun ρ Q R h zz0 => by obtain ⟨u,n,q⟩ := zz0; exact ⟨u,n,m.mono ρ _ _ (fun c zz0 => by obtain ⟨k,d,e,g,q⟩ := zz0; exact ⟨k,d,e,g,h _ q⟩) q⟩,PE.imp (jL y (z9 O j s p) m.ok J) fun σ H Q=>el5 fun K ρ G F q=>?_⟩
 obtain⟨u,n,q⟩:=q;refine Hd fun Y Z=>?_;obtain⟨l,o,r,M,I,E,_⟩:=zdA F n;apply Z;refine⟨_,M,K,ρ,G,F,m.mono ρ _ _ (fun c w P C L a A=>?_) q⟩
 obtain⟨k,d,rfl,s,z⟩:=w;obtain⟨b,rfl,B⟩:=zdi (zm A);obtain⟨v,j,N⟩:=(E.same a.g).get s;exact⟨l,v,rfl,.inr ⟨r,k,b,.inr ⟨o,a.sub.s _ _ (a.g _ _ I)⟩,rfl,a.sub.s _ _ B,j.symm⟩,z v C L a (.sh N)⟩
def zau(i:Nat)(tk te:TE3):TS3:=fun A ρ=>∃ ds,ρ[i]?=some (some (.dt ds))/\te ρ fun c=>tk ρ fun ck=>∃ d k,c=.sh true d/\ck=.sh true (keyT k)/\ds.length<sizeLine/\A.nx (ρ.set i (some (.dt (putT ds k d))))
theorem zgT{tk te:TE3}{ke e:Expr}{np spos:Pos}(J:X.A.units+1<cLine)(hN:X.N[i]?=some x)(C:Vis X.env.scope x)(r:PE3 X H0 ke tk)(s:PE3 X H0 e te)(Z:(x==("__debug__" : Str))=false:=by decide)(n:(x==("__classdict__" : Str))=false:=by decide)
 (S:swapsWith e (some (.Subscript (.Name x np) ke spos)) pos.line X.env=pure false:=by rfl):PS3 X H0 (.Assign [.Subscript (.Name x np) ke spos] e pos) (zau i tk te):=by
 refine PS.imp (Jj J (z9 hN C Z n) r.ok s.ok S) fun B σ H p=>?_
 obtain⟨w,A,ρ,G,F,⟨R,m,q⟩,L⟩:=p;refine⟨w,ρ,G,F,s.mono ρ _ _ (fun c T v M H1 Q P=>?_) q⟩
 have g:=F.gr Q;obtain⟨l,W,o,_,_,_⟩:=Ju g m;refine⟨_,o,w,ρ,M,g,r.mono ρ _ _ (fun ck K v2 G2 H2 y N=>?_) T⟩
 obtain⟨d,k,rfl,rfl,U,I⟩:=K;obtain⟨b,rfl,O⟩:=zdi (zm N);have j:=g.gr y;obtain⟨l',z,a,E,u,Y⟩:=Ju j m;rw [o] at a;cases a;have rv:=(zm P).same y.g;exact⟨l,_,rfl,DPut.t E (j.sub.s _ _ O) (by rw [u.length];exact U),L.nx _ _ _ _ (j.chg (c':=.dt (putT R k d)) m o rfl (fun _ h=>h) (.dt zf (u.put rv) Y)) I⟩
def ZI(i:Nat)(tk te:TE3):TE3:=fun ρ Q=>∃ ds,ρ[i]?=some (some (.dt ds))/\tk ρ fun ck=>te ρ fun c=>∃ k d,ck=.sh true (keyT k)/\c=.sh true d/\Q (.sh true ((getT ds k).getD d))
theorem zkc{tk te:TE3}{ke e:Expr}{np apos cpos:Pos}(P:X.A.units+1<cLine)(hN:X.N[i]?=some x)(p:Vis X.env.scope x)(r:PE3 X H0 ke tk)(s:PE3 X H0 e te)(m:M2 X (.Name x np) "get" apos ke e cpos:=by exact⟨rfl,rfl,rfl,rfl⟩)(hd:(x==("__debug__" : Str))=false:=by decide)(u:(x==("__classdict__" : Str))=false:=by decide):PE3 X H0 (.Call (.Attribute (.Name x np) "get" apos) [ke,e] [] cpos) (ZI i tk te):=by
 refine⟨fun ρ Q Q' h zz0 => by obtain ⟨A,n,q⟩ := zz0; exact ⟨A,n,r.mono ρ _ _ (fun ck q=>s.mono ρ _ _ (fun c zz0 => by obtain ⟨k,d,Y,O,q⟩ := zz0; exact ⟨k,d,Y,O,h _ q⟩) q) q⟩,PE.imp (zjf P (z9 hN p hd u) r.ok s.ok m) fun σ H Q=>el5 fun K ρ G F q=>?_⟩
 obtain⟨A,n,q⟩:=q;obtain⟨l,B,M,Z,_,_⟩:=Ju F n;refine⟨.ref l,M,l,rfl,.inr ⟨B,.inl Z⟩,K,ρ,G,F,r.mono ρ _ _ (fun ck q1 v1 S H1 w W=>?_) q⟩
 have C:=F.gr w;refine⟨K,ρ,S,C,s.mono ρ _ _ (fun c R v2 J L o T=>?_) q1⟩
 obtain⟨k,d,rfl,rfl,j⟩:=R;obtain⟨b,rfl,U⟩:=zdi (zm W);have E:=C.gr o;obtain⟨l',g,a,N,I,k4⟩:=Ju E n;rw [M] at a;cases a;refine⟨_,DGet.t N (E.sub.s _ _ (o.g _ _ U)),?_⟩;cases e:getT A k with
 | none=>
  have z:=I.some k;rw [e] at z;cases y:valV g k with
  | none=>rw [e] at j;exact j _ J L (w.trans o) T
  | some v=>rw [y] at z;cases z
 | some d'=>
  obtain⟨v,p,rv⟩:=I.get e;rw [p];rw [e] at j;exact j v J L (w.trans o) (.sh rv)
end
section
variable{ρ: Env3}
theorem Fr3.move(F:Fr3 K H0 G0 ρ σ G H){i j:Nat}{c:Cl}{v:V}(P:i≠j)(y:ρ[j]?=some (some c))(w:σ[j]?=some (some v)):Fr3 K H0 G0 ((ρ.set j none).set i (some c)) (σ.set i (some v)) G H:=by
 have b:∀ {k:Nat} {g:Cl},((ρ.set j none).set i (some c))[k]?=some (some g)->(k=i/\g=c/\(σ.set i (some v))[k]?=some (some v))\/(k≠i/\k≠j/\ρ[k]?=some (some g)/\(σ.set i (some v))[k]? = σ[k]?):=fun {k g} e=>by
  rcases zF e with ⟨rfl,q,L⟩|⟨n,q⟩
  . cases q
    rw [YaN] at L;exact .inl ⟨rfl,rfl,Yas (by rw [<-F.len];exact L)⟩
  . rcases zF q with ⟨_,q,_⟩|⟨l,q⟩
    . cases q
    . exact .inr ⟨WbA n,WbA l,q,Yac n⟩
 refine⟨F.keep,F.sub,F.old,F.g0,fun k g e=>?_,fun k g B a e A h=>?_,fun k m C M J I a N E p o u s=>?_,by rw [YaN,YaN,YaN];exact F.len⟩
 . rcases b e with ⟨rfl,rfl,q⟩|⟨n,l,q,z⟩
   . exact⟨v,q,F.vw y w⟩
   . obtain⟨B,u,s⟩:=F.slot k g q
     exact⟨B,by rw [z];exact u,s⟩
 . rcases b e with ⟨rfl,rfl,q⟩|⟨n,l,q,z⟩
   . rw [q] at A;cases A;exact F.mine j _ v a y w h
   . rw [z] at A;exact F.mine k g B a q A h
 . rcases b N with ⟨rfl,rfl,q⟩|⟨n,l,q,z⟩
   . rw [q] at p;cases p
     rcases b E with ⟨rfl,_,_⟩|⟨n,l,r,z⟩
     . rfl
     . rw [z] at o;exact absurd (F.apart j m _ M v I a y r w o u s).symm l
   . rw [z] at p
     rcases b E with ⟨rfl,rfl,r⟩|⟨R,Q,r,O⟩
     . rw [r] at o;cases o;exact absurd (F.apart k j C _ J v a q y p w u s) l
     . rw [O] at o;exact F.apart k m C M J I a q r p o u s
end
section
variable{x:Str}
def ZC(i j:Nat):TS3:=fun A ρ=>∃ ds,ρ[j]?=some (some (.dt ds))/\A.nx ((ρ.set j none).set i (some (.dt ds)))
theorem zmG{xp yp:Pos}(c:i≠j)(v:X.N.Nodup)(n:X.N[i]?=some x)(o:Loc X.env.scope x)(u:X.N[j]?=some y)(e:Vis X.env.scope y)(r:(y==("__debug__" : Str))=false:=by decide)(a:(y==("__classdict__" : Str))=false:=by decide)(s:swapsWith (.Name y yp) (some (.Name x xp)) pos.line X.env=pure false:=by rfl)
 (m:X.fn x=true\/X.env.scope.names.lookup x=some .local:=by first|exact .inl rfl|exact .inr rfl|assumption):PS3 X H0 (.Assign [.Name x xp] (.Name y yp) pos) (ZC i j):=PS.imp (jd v n o (z9 u e r a) s m) fun B σ H b=>by
 obtain⟨z,A,ρ,G,F,⟨I,h,q⟩,L⟩:=b;obtain⟨l,p,g,w,C,E⟩:=Ju F h;exact⟨_,g,L.nx _ _ G H (F.move c h g) q⟩
end
end L3
namespace L2
open PySem PySem.Spec PyProof.Rows
def zhx(K:Ybf):R2:=fun x y H Q=>∃ a b xs ys,x=.ref a/\y=.ref b/\SqT K H a xs/\SqT K H b ys/\xs.length+ys.length<=sizeLine/\
 (xs=[]->Q (.ref b) H)/\(xs≠[]->ys=[]->Q (.ref a) H)/\(xs≠[]->ys≠[]->∀ p,H p=none->Q (.ref p) (upd H p (.tup (xs++ys))))
theorem znm:OpR X (binaryOp .Add) (zhx X.K):=by
 intro w s σ H x y v u Q I q l h;obtain⟨a,b,o,C,rfl,rfl,g,i,r,B,K,E⟩:=h
 by_cases c:o=[]
 . cases q
   cases l;obtain⟨G,e,L,_⟩:=I.tuple g
   obtain⟨n,J,M,_⟩:=I.tuple i;obtain⟨m,F⟩:=I.fr;have j:=e.nil_iff.mpr c;refine add_tuples (news:=[]) F (fun p A=>by cases A) L M (fun _=>⟨.ref b,H,I,rfl,B c⟩) (fun z=>absurd j z) (fun z=>absurd j z) (by rw [<-e.length,<-J.length];exact r)
 . exact zmn _ s σ H _ _ v u Q I q l ⟨a,b,o,C,rfl,rfl,g,i,c,r,K c,E c⟩
theorem ziY:fillsNumberSlot (Ud "tuple") "mul" = pure false:=by rfl
theorem zhQ:seqRepeat? (Ud "tuple")=pure (some (Value.builtin "tuple.__mul__")):=by rfl
theorem zid{a:Int}{xs:Array Value}(c:o.data=.seq xs m):Meets (Builtin.«int.__rmul__» { pos:=[W0 a t,Xs l] }) fun _ R s=>s.heap.get? l=some o/\R (.ok (.ret .notImplemented)) s:=by
 intro b w A R s h;obtain⟨e,q⟩:=h;refine wpAny_bind (wpAny_pure ?_);refine wpAny_bind (wpAny_pure ?_);refine wpAny_bind (wpAny_bind (wpAny_load e ?_));rw [c];refine wpAny_pure ?_;exact wpAny_bind (wpAny_rule (wpAny_pure q))
theorem zjJ{xs:Array Value}(j:o.cls=.type "tuple")(q:o.data=.seq xs m)(r:1<=k)(v:k<=1000)(b:xs.isEmpty=false)(u:(xs.size:Int)*k<=1000000):Meets (Builtin.«tuple.__mul__» { pos:=[Xs l,W0 k t] }) fun _ R s=>s.heap.get? l=some o/\(k=1->R (.ok (.ret (.ref l))) s)/\(k≠1->R (.ok (.ret (.ref s.heap.objs.size))) { s with heap:=s.heap.push { cls:=.type "tuple", data:=.seq (Ue (fun x1 x2=>x1++x2) #[] (Xb k.toNat xs)) } }):=by
 intro c w A R s h;obtain⟨e,i,g⟩:=h;refine wpAny_bind ?_;refine wpAny_bind (wpAny_pure (wpAny_pure ?_));dsimp only;rw [if_neg (by simp;lia)]
 refine wpAny_bind ?_
 refine wpAny_bind ?_
 refine wpAny_bind (wpAny_load e ?_)
 rw [q];refine wpAny_pure (wpAny_pure ?_)
 by_cases a:k=1
 . rw [if_pos (by simp [a])]
   refine wpAny_bind (wpAny_bind (wpAny_typeOf ⟨o,e,j⟩ (wpAny_pure ?_)))
   exact wpAny_bind (wpAny_rule (wpAny_pure (i a)))
 . rw [if_neg (by simp [b,a])]
   have n:(1000000:Int)<=sizeLine:=#[1]
   rw [if_neg #[94],if_neg #[94],if_neg (by unfold Builtin.Tuple.tupleTooMany;lia)]
   refine wpAny_bind (wpAny_newObj_type (wpAny_pure (g a)) ?_)
   show(Ue (fun x1 x2=>x1++x2) #[] (Xb k.toNat xs)).size<=sizeLine
   have p:=zcs xs.toList k.toNat [];rw [p,YaZ,Xc,zg1,Yt]
   lia
def zhs(K:Ybf):R2:=fun x y H Q=>∃ a k xs,x=.ref a/\y=.int k/\SqT K H a xs/\xs≠[]/\1<=k/\k<=1000/\(xs.length:Int)*k<=1000000/\(k=1->Q (.ref a) H)/\(k≠1->∀ p,H p=none->Q (.ref p) (upd H p (.tup (Xb k.toNat xs).flatten)))
theorem zjW:OpR X (binaryOp .Mult) (zhs X.K):=by
 intro l s σ H x y v u Q I J B h;refine Hd fun Y Z=>?_;obtain⟨a,k,P,rfl,rfl,A,N,K,E,R,L,w⟩:=h;apply Z;cases J;obtain⟨t,rfl⟩:=B;obtain⟨e,r,p,_⟩:=I.tuple A;have m:=r.length;obtain⟨o,c,g,n,j⟩:=p;have i:e.toArray.isEmpty=false:=by
  grind
 refine wpAny_binaryOp_repeat_ref #[1] ⟨_,c,g⟩ (fun G=>typeIs_int G k t) ziY F.fills_int_mul W5 zhQ F.slot_int_index.lookup
  (call_meets W5 (typeIs_int s k t) F.entry_int_rmul (F.args_int_rmul_2 _ _) (zid j)
   ⟨c,rfl,⟨_,c,g⟩,call_meets F.slot_tuple_mul ⟨_,c,g⟩ F.entry_tuple_mul (F.args_tuple_mul_2 _ _) (zjJ g j K E i (by grind)) ⟨c,fun z=>⟨.ref a,H,I,rfl,L z⟩,fun z=>?_⟩⟩)
 have C:=zcs e k.toNat [];rw [C];refine⟨.ref _,_,I.laid (o:=.tup _) (fun b O q=>YaW _ q) (YaY _) ⟨?_,_,r.rep _,IsTup.new _ _⟩,rfl,w z _ (I.hok.fresh (YaY _))⟩
 have M:(1000000)<=sizeLine:=#[1]
 rw [zg1]
 lia
end L2
namespace L3
open PySem PySem.Spec PyProof.Rows L2
variable[LamW]
def zap(ta tb:TE3):TE3:=fun ρ Q=>ta ρ fun a=>tb ρ fun b=>∃ ds es,a=.sh true (.tuple ds)/\b=.sh true (.tuple es)/\ds.length+es.length<=sizeLine/\Q (.sh true (.tuple (ds++es)))
theorem zfd{a b:Expr}{ta tb:TE3}(o:PE3 X H0 a ta)(n:PE3 X H0 b tb):PE3 X H0 (.BinOp a .Add b pos) (zap ta tb):=by
 refine⟨fun ρ Q Q' h q=>o.mono ρ _ _ (fun a=>n.mono ρ _ _ fun b zz0 => by obtain ⟨s,u,O,J,z,q⟩ := zz0; exact ⟨s,u,O,J,z,h _ q⟩) q,PE.imp (Jn znm o.ok n.ok) fun σ H Q=>el5 fun E ρ G F q=>⟨E,ρ,G,F,o.mono ρ _ _ (fun a K Z N W i B=>⟨E,ρ,N,F.gr i,n.mono ρ _ _ (fun b v Y C I c A=>?_) K⟩) q⟩⟩
 obtain⟨s,u,rfl,rfl,U,q⟩:=v;have M:=zm (B.gr c);have S:=zm A;obtain⟨l,T,rfl,P,y⟩:=Jr M;obtain⟨m,L,rfl,w,g⟩:=Jr S;refine⟨l,m,T,L,rfl,rfl,c.sub.tup P,c.sub.tup w,by rw [y.length,g.length];exact U,fun z=>?_,fun _ z=>?_,fun _ _ p j=>?_⟩
 . have e:s=[]:=by rw [<-Wal,<-y.length,z];rfl
   subst e;exact q _ C I (i.trans c) A
 . have e:u=[]:=by rw [<-Wal,<-g.length,z];rfl
   subst e;rw [Yao] at q;exact q _ C I (i.trans c) (B.gr c)
 . have r:=y.append g
   refine q _ _ _ ((i.trans c).trans (Gr.put c.sub j)) ?_
   exact .sh ⟨.tup (.inl (.inl zf)) (rdvs_same (zx (c.sub.free j) _) r.rd),fun R=>.tup zf (rdns_mono (zx (c.sub.free j) _) (fun _ _ _ z=>z) (r.nw R))⟩
def ZG(ta tb:TE3):TE3:=fun ρ Q=>ta ρ fun a=>tb ρ fun b=>∃ ds k,a=.sh true (.tuple ds)/\b=.sh true (.int k)/\ds≠[]/\1<=k/\k<=1000/\(ds.length:Int)*k<=1000000/\Q (.sh true (.tuple (Xb k.toNat ds).flatten))
theorem znl{a b:Expr}{ta tb:TE3}(o:PE3 X H0 a ta)(n:PE3 X H0 b tb):PE3 X H0 (.BinOp a .Mult b pos) (ZG ta tb):=by
 refine⟨fun ρ Q U h q=>o.mono ρ _ _ (fun a=>n.mono ρ _ _ fun b zz0 => by obtain ⟨g,k,L,C,s,j,v,i,q⟩ := zz0; exact ⟨g,k,L,C,s,j,v,i,h _ q⟩) q,PE.imp (Jn zjW o.ok n.ok) fun σ H Q=>el5 fun B ρ G F q=>⟨B,ρ,G,F,o.mono ρ _ _ (fun a E T I R u A=>⟨B,ρ,I,F.gr u,n.mono ρ _ _ (fun b w S K O c J=>?_) E⟩) q⟩⟩
 obtain⟨g,k,rfl,rfl,s,j,v,i,q⟩:=w;cases zv (zm J).rd;obtain⟨l,P,rfl,M,y⟩:=Jr (zm (A.gr c));refine⟨l,k,P,rfl,rfl,c.sub.tup M,fun z=>s (by rw [<-Wal,<-y.length,z];rfl),j,v,by rw [y.length];exact i,fun z=>?_,fun z p m=>?_⟩
 . subst z
   have e:(Xb (XX 1) g).flatten=g:=by simp
   rw [e] at q;exact q _ K O (u.trans c) (A.gr c)
 . have r:=y.rep k.toNat
   refine q _ _ _ ((u.trans c).trans (Gr.put c.sub m)) ?_
   exact .sh ⟨.tup (.inl (.inl zf)) (rdvs_same (zx (c.sub.free m) _) r.rd),fun N=>.tup zf (rdns_mono (zx (c.sub.free m) _) (fun _ _ _ z=>z) (r.nw N))⟩
variable[LamW]
abbrev Tb:=List (Int×Int)
noncomputable def dms:List Cl->List Addr
 | []=>[]
 | .dm a _::r=>a::dms r
 | .sh _ _::r=>dms r
 | .ow _ _::r=>dms r
 | .tr _ _::r=>dms r
 | .dt _::r=>dms r
 | .dk _::r=>dms r
 | .fd _::r=>dms r
 | .tk _::r=>dms r
 | .ex _::r=>dms r
noncomputable def jm:Cl->Bool
 | .sh _ _=>true
 | .dm _ _=>true
 | .fd ds=>ds.all fun p=>zt p.2
 | .ow _ _=>false
 | .tr _ _=>false
 | .dt _=>false
 | .dk _=>false
 | .tk _=>false
 | .ex _=>false
noncomputable def argC:Cl->Cl
 | .sh _ d=>.sh (zt d) d
 | .dm a ds=>.dm a ds
 | .fd ds=>.fd ds
 | .ow f ds=>.ow f ds
 | .tr a b=>.tr a b
 | .dt a=>.dt a
 | .dk a=>.dk a
 | .tk a=>.tk a
 | .ex a=>.ex a
noncomputable def JI:Cl->Bool
 | .sh _ _=>true
 | .dt _=>true
 | .dm _ _=>false
 | .fd _=>false
 | .ow _ _=>false
 | .tr _ _=>false
 | .dk _=>false
 | .tk _=>false
 | .ex _=>false
theorem zgh(a):dms (a.map argC)=dms a:=by
 induction a with
 | nil=>rfl
 | cons c r b=>cases c<;>first|exact b|exact congrArg (List.cons _) b
theorem zdb{ds:Tb}(h:cs[i]?=some (.dm a ds)):a∈dms cs:=by
 induction cs generalizing i with
 | nil=>simp at h
 | cons c r b=>
  cases i with
  | zero=>cases h;exact YaV
  | succ i=>
   have:=b (by simpa using h)
   cases c<;>first|exact this|exact YaT _ this
theorem znw{ds es:Tb}(b:(dms cs).Nodup)(h:cs[i]?=some (.dm a ds))(h':cs[j]?=some (.dm a es)):i=j:=by
 induction cs generalizing i j with
 | nil=>simp at h
 | cons c r g=>
  cases i with
  | zero=>
   cases h;cases j with
   | zero=>rfl
   | succ j=>exact absurd (zdb (by simpa using h')) (YaB.mp b).1
  | succ i=>
   cases j with
   | zero=>
    cases h';exact absurd (zdb (by simpa using h)) (YaB.mp b).1
   | succ j=>
    have e:(dms r).Nodup:=by cases c<;>first|exact b|exact(YaB.mp b).2
    rw [g e (i:=i) (by simpa using h) (by simpa using h')]
noncomputable def bar(H:Hp)(as:List Addr):Hp:=fun b=>if b∈as then none else H b
theorem jE{b:Addr}(h:b∈as):bar H as b=none:=if_pos h
theorem z6{b:Addr}(h:b∉as):bar H as b=H b:=if_neg h
theorem Zd(H)(a):Same (bar H a) H:=fun b o e=>by
 by_cases h:b∈a
 . rw [jE h] at e;cases e
 . rwa [z6 h] at e
theorem zdh{b:Addr}(h:bar H as b=none):b∈as\/H b=none:=by
 by_cases z:b∈as
 . exact .inl z
 . rw [z6 z] at h;exact .inr h
def Bk(G H:Hp):List Addr->List Tb->Prop
 | [],[]=>True
 | a::as,m::ms=>(H a=some (.dK (encM m))/\G a=none)/\Bk G H as ms
 | _,_=>False
abbrev SpC:=List Cl->(Cl->List Tb->Prop)->Prop
def spC(K:Ybf)(sp:SpC):Sp:=fun vs H Q _=>∃ G cs,Sub G H/\Vws K (bar H (dms cs)) G H vs cs/\(dms cs).Nodup/\
 sp cs fun c ms=>∀ v G' H',Gr G (bar H (dms cs)) G' H'->Vw K (bar H (dms cs)) G' H' v c->(∀ a,Has c v a->H a=none)->Bk G' H' (dms cs) ms->JI c=true->Q v H'
structure DfC(P:Program)(w:World)(K:Ybf)(mg:Str->Option Value)(base:Heap)(k:Nat)(x:Str)(ps:List Str)(sp:SpC):Prop where
 mono:∀ cs (Q Q':Cl->List Tb->Prop),(∀ c ms,Q c ms->Q' c ms)->sp cs Q->sp cs Q'
 ok:Df P w K mg base k x ps (spC K sp)
noncomputable def Jd(N:List Str)(cs:List Cl):Env3:=cs.map some++Xb (N.length - cs.length) none
def finM:List Nat->List Addr->Env3->(List Tb->Prop)->Prop
 | [],[],_,Q=>Q []
 | j::js,a::as,ρ,Q=>∃ m,ρ[j]?=some (some (.dm a m))/\finM js as ρ fun ms=>Q (m::ms)
 | _,_,_,_=>False
theorem Vws.length(h:Vws K H0 G H vs cs):vs.length=cs.length:=zgk h
theorem Vws.get(h:Vws K H0 G H vs cs){c:Cl}(e:cs[i]?=some c):∃ v,vs[i]?=some v/\Vw K H0 G H v c:=by
 induction h generalizing i with
 | nil=>simp at e
 | cons a b g=>
  cases i with
  | zero=>simp_all
  | succ i=>simp_all
section
variable{ρ: Env3}
theorem ju(F:Fr3 K H0 G0 ρ σ G H){i:Nat}{a:Addr}{ds:Tb}(h:ρ[i]?=some (some (.dm a ds))):σ[i]?=some (some (.ref a))/\H a=some (.dK (encM ds))/\G a=none:=by
 obtain⟨v,c,b⟩:=F.slot i _ h;cases b with
 | dm x y=>exact⟨c,x,y⟩
theorem zd3(F:Fr3 K H0 G0 ρ σ G H):∀ {js:List Nat} {as:List Addr} {R:List Tb->Prop},finM js as ρ R->(∃ ms,Bk G H as ms/\R ms)/\∀ a∈as,∃ (j:Nat) (m:Tb),ρ[j]?=some (some (Cl.dm a m))
 | [],[],R,h=>⟨⟨[],XF,h⟩,fun a z=>by cases z⟩
 | j :: js, a :: as, R, ⟨m, hj, h⟩ => by
  obtain⟨⟨ms,i,g⟩,l⟩:=zd3 F h;refine⟨⟨m::ms,⟨(ju F hj).2,i⟩,g⟩,fun b c=>?_⟩
  rcases Wbe.mp c with e|c
  . rw [e];exact⟨j,m,hj⟩
  simp_all
 | [],_::_,_,h=>h.elim
 | _::_,[],_,h=>h.elim
end
theorem zj1{K:Ybf}{G H:Hp}{N:List Str}{vs:List V}{cs:List Cl}(s:Sub G H)(w:Vws K (bar H (dms cs)) G H vs cs)(J:(dms cs).Nodup)(O:∀ c∈cs,jm c=true):Fr3 K (bar H (dms cs)) G (Jd N cs) (start N vs) G H:=by
 have g:∀ (i:Nat) c,(Jd N cs)[i]?=some (some c)->cs[i]?=some c:=fun i c e=>by
  unfold Jd at e
  by_cases y:i<cs.length
  . rw [Yab (by simpa using y),Ya0] at e
    grind
  . rw [Yae (by simpa using y),Yad] at e
    grind
 have n:∀ (i:Nat) c v a,cs[i]?=some c->Vw K (bar H (dms cs)) G H v c->Has c v a->∃ E,c=.dm a E:=fun i c v a e m h=>by
  have:=O c (Yah e);cases m with
  | dm _ _=>cases h;exact⟨_,rfl⟩
  | sh _=>exact Xj h
  | fd _ _ _=>exact Xj h
  | _=>cases this
 have C:=w.length;have l:∀ (i:Nat) c,cs[i]?=some c->∃ v,(start N vs)[i]?=some _/\Vw K _ G H v c:=fun i c e=>by
  obtain⟨v,F,m⟩:=w.get e;refine⟨v,?_,m⟩;unfold L2.start;have y:=(Ya8.mp F).1;rw [Yab (by simpa using y),Ya0,F];rfl
 refine⟨(Zd _ _).x,s,fun b o e=>.inl e,Same.refl _,fun i c e=>l i c (g i c e),fun i c v a e q h=>?_,fun i j c A v I a e q z M h L=>?_,?_⟩
 . obtain⟨I,p,m⟩:=l i c (g i c e)
   rw [q] at p;cases p;obtain⟨E,rfl⟩:=n i c v a (g i c e) m h;exact jE (zdb (g i _ e))
 . obtain⟨u,p,m⟩:=l i c (g i c e)
   rw [z] at p;cases p;obtain⟨P,r,B⟩:=l j A (g j A q);rw [M] at r;cases r;obtain⟨E,rfl⟩:=n i c v a (g i c e) m h;obtain⟨Q,rfl⟩:=n j A I a (g j A q) B L;exact znw J (g i _ e) (g j _ q)
 . unfold Jd L2.start;simp [C]
theorem fnC{P:Program}{w:World}{K:Ybf}{mg:Str->Option Value}{base:Heap}{x qual:Str}{st:Stmt}{f:Addr}{fd:FuncData}{N ps:List Str}{k:Nat}{sp:SpC}(M:List Nat)(F:Fun K x qual st f fd)(S:FnScope N ps (zg st))(o:∀ cs Q,sp cs Q->cs.length=ps.length/\∀ c∈cs,jm c=true)
 (i:∀ (cdv:Value) (A:Around) (outer:List Env) (s:Shared) (H H0:Hp) (E:XK) (E3:Addr->Prop),(∀ C H',E3 C->zh H0 H'->E (.ref C) none H')->Room k (A.deeper (envOfC qual (zg st) s.heap.objs.size f cdv))->
  ∃ t,PSs3 (cxOf (CXR P w) P w K mg base N qual (zg st) f cdv A outer s H E) H0 (jN st) t/\∀ cs Q,sp cs Q->t { nx:=fun ρ=>finM M (dms cs) ρ (Q (.sh true .none)),rt:=fun _ _=>False,rm:=fun c ρ=>JI c=true/\finM M (dms cs) ρ (Q c) } (Jd N cs)):FnOk P w K mg base (CXR P w) (k+1) f fd ps (spC K sp):=by
 refine F.okR S (fun I H Q E h=>?_) (fun cdv A outer s H I Q E Y h=>?_)
 . obtain⟨G,cs,_,r,_,h⟩:=h
   rw [r.length];exact(o _ _ h).1
 . obtain⟨G,cs,X,r,T,h⟩:=h
   obtain⟨t,U,L⟩:=i cdv A outer s H _ E (fun _=>False) (fun C H' e _=>e.elim) Y
   refine⟨_,U,G,_,_,G,zj1 X r T (o _ _ h).2,L cs _ h,⟨fun ρ σ p H' l q=>?_,fun f d v p H' g rd q=>q.elim,fun _ _ _ _ _ q=>q.elim,fun _ _ _ _ _ q=>q.elim,fun c v ρ σ p H' l R Z q=>?_⟩⟩
   . obtain⟨⟨W,b,q⟩,_⟩:=zd3 l q
     exact q .non p H' l.gr0 (.sh (.sc rfl .non)) (fun a z=>Xj z) b rfl
   . obtain⟨n,q⟩:=q
     obtain⟨⟨W,b,q⟩,J⟩:=zd3 l q;refine q v p H' l.gr0 R (fun a z=>?_) b n
     obtain⟨B,O⟩:=Z a z
     rcases zdh B with y|y
     . obtain⟨j,m,u⟩:=J a y
       exact absurd rfl (O j _ _ u (ju l u).1)
     . exact y
variable[LamW]
def holds(ρ : Env3):List Nat->List Addr->Prop
 | [],[]=>True
 | j::js,a::as=>(∃ m,ρ[j]?=some (some (.dm a m)))/\holds ρ js as
 | _,_=>False
noncomputable def updM:List Nat->List Addr->List Tb->Env3->Env3
 | j::js,a::as,m::ms,ρ=>updM js as ms (ρ.set j (some (.dm a m)))
 | _,_,_,ρ=>ρ
section
variable{ρ: Env3}
theorem zaV{ρ : Env3}:∀ {js:List Nat} {as:List Addr},holds ρ js as->∀ a∈as,∃ (j:Nat) (m:Tb),j∈js/\ρ[j]?=some (some (Cl.dm a m))
 | [],[],_,a,h=>by cases h
 | j :: js, a :: as, ⟨_, h⟩, b, c => by
  rcases Wbe.mp c with e|c
  . simp_all
  . obtain⟨i,n,l,g⟩:=zaV h b c
    exact⟨i,n,YaT _ l,g⟩
 | [],_::_,h,_,_=>h.elim
 | _::_,[],h,_,_=>h.elim
theorem zfC(F:Fr3 K H0 G0 ρ σ G H):∀ {js:List Nat} {as:List Addr},js.Nodup->holds ρ js as->as.Nodup
 | [],[],_,_=>Wbb
 | j :: js, a :: as, nd, ⟨⟨m, hm⟩, h⟩ => by
  obtain⟨g,c⟩:=YaB.mp nd;refine YaB.mpr ⟨fun z=>?_,zfC F c h⟩
  obtain⟨i,n,l,b⟩:=zaV h a z;have e:=F.apart j i _ _ _ _ a hm b (ju F hm).1 (ju F b).1 rfl rfl
  grind
 | [],_::_,_,h=>h.elim
 | _::_,[],_,h=>h.elim
theorem zfg{ρ : Env3}{j:Nat}{o:Option Cl}:∀ {js:List Nat} {as:List Addr},j∉js->holds ρ js as->holds (ρ.set j o) js as
 | [],[],_,_=>XF
 | i::js,a::as,n,⟨⟨m,hm⟩,h⟩=>⟨⟨m,by simp_all⟩,zfg (fun z=>n (YaT _ z)) h⟩
 | [],_::_,_,h=>h.elim
 | _::_,[],_,h=>h.elim
theorem zeK:∀ (js:List Nat) (as:List Addr) (ms:List Tb) (ρ : Env3),(updM js as ms ρ).length = ρ.length
 | [],_,_,_=>rfl
 | _::_,[],_,_=>rfl
 | _::_,_::_,[],_=>rfl
 | j::js,a::as,m::ms,ρ=>by show(updM js as ms _).length=_;rw [zeK,YaN]
theorem zcJ{G' H':Hp}:∀ {js:List Nat} {as:List Addr} {ms:List Tb} {ρ : Env3},js.Nodup->holds ρ js as->Bk G' H' as ms->∀ (i:Nat) (c:Cl),(updM js as ms ρ)[i]?=some (some c)->
 (i∉js/\ρ[i]?=some (some c))\/∃ a m m0,c=.dm a m/\a∈as/\ρ[i]?=some (some (.dm a m0))/\H' a=some (.dK (encM m))/\G' a=none
 | [],[],[],ρ,_,_,_,i,c,e=>.inl ⟨by simp,e⟩
 | j :: js, a :: as, m :: ms, ρ, nd, ⟨⟨m0, hm⟩, h⟩, ⟨b0, b⟩, i, c, e => by
  obtain⟨u,w⟩:=YaB.mp nd
  rcases zcJ w (zfg u h) b i c e with ⟨o,g⟩|⟨s,p,l,o,g,v,r⟩
  . rcases zF g with ⟨rfl,q,_⟩|⟨n,q⟩
    . cases q
      exact .inr ⟨a,m,m0,rfl,YaV,hm,b0⟩
    . exact .inl ⟨fun z=>by
       simp_all,q⟩
  . rcases zF v with ⟨rfl,q,_⟩|⟨n,q⟩
    . cases q
      exact .inr ⟨a,p,m0,o,YaV,hm,r⟩
    . exact .inr ⟨s,p,l,o,YaT _ g,q,r⟩
 | [],_::_,_,_,_,h,_,_,_,_=>h.elim
 | _::_,[],_,_,_,h,_,_,_,_=>h.elim
 | _::_,_::_,[],_,_,_,b,_,_,_=>b.elim
 | [],[],_::_,_,_,_,b,_,_,_=>b.elim
theorem Fr3.called(F:Fr3 K H0 G0 ρ σ G H){js:List Nat}{as:List Addr}{ms:List Tb}(nd:js.Nodup)(u:holds ρ js as)(g:Gr G (bar H as) G' H')(b:Bk G' H' as ms):Fr3 K H0 G0 (updM js as ms ρ) σ G' H':=by
 have p:∀ a∈as,H0 a=none/\∃ m:Tb,H a=some _:=fun a h=>by
  obtain⟨j,m,_,E⟩:=zaV u a h;obtain⟨r,l,h3⟩:=ju F E;exact⟨F.mine j _ _ a E r rfl,m,l⟩
 have s:=fun i c=>zcJ nd u b i c
 have I:∀ (i:Nat) (c:Cl) (v:V) (a:Addr),i∉js->ρ[i]?=some (some c)->σ[i]?=some (some v)->Has c v a->a∉as:=fun i c v a n e B h z=>by
  obtain⟨j,m,E,w⟩:=zaV u a z;have:=F.apart i j _ _ _ _ a e w B (ju F w).1 h rfl;exact n (this ▸ E)
 have kp:zh H0 H':=fun c o e=>by
  have R:c∉as:=fun z=>by rw [(p c z).1] at e;cases e
  rcases F.keep c o e with z|⟨z,n,A,r,l⟩
  . exact g.h c o ((z6 R).trans z)
  . refine .inr ⟨z,n,Lk.same ⟨A,(z6 R).trans r,(z6 fun y=>?_).trans l⟩ g.h⟩
    obtain⟨m,w⟩:=(p A y).2;rw [w] at l;cases l
 refine⟨kp,g.sub,fun c o e=>?_,F.g0.trans g.g,fun i c e=>?_,fun i c v a e B h=>?_,fun i j c A v S a e1 e2 Z e4 r l=>?_,by rw [zeK];exact F.len⟩
 . rcases g.new c o e with q|q|q
   . exact F.old c o q
   . rcases zdh q with y|y
     . exact .inr (.inl (p c y).1)
     . exact .inr (.inl (F.keep.free y))
   . exact .inr (.inr q)
 . rcases s i c e with ⟨n,q⟩|⟨a,m,T,rfl,O,q,r,l⟩
   . obtain⟨v,L,J⟩:=F.slot i c q
     refine⟨v,L,J.turn g.g (fun a C z=>?_) fun a h=>?_⟩
     . refine g.h.exc ((z6 fun y=>?_).trans z)
       obtain⟨m,w⟩:=(p a y).2;rw [w] at z;cases z
     . have M:=I i c v a n q L h
       obtain⟨⟨o,u,U⟩,Q⟩:=J.has h;have P:=(z6 M).trans u;refine⟨(g.h.at P U).trans u.symm,(g.hid P Q U fun xs z=>?_).trans Q.symm⟩
       exact J.ntup h xs ((z6 M).symm.trans z)
   . exact⟨_,(ju F q).1,.dm r l⟩
 . rcases s i c e with ⟨n,q⟩|⟨a',m,T,rfl,O,q,r,l⟩
   . exact F.mine i c v a q B h
   . exact F.mine i _ v a q B h
 . have N:∀ (i:Nat) (c:Cl) (v:V) (a:Addr),(updM js as ms ρ)[i]?=some (some c)->Has c v a->∃ W,ρ[i]?=some _/\Has W v a:=fun i c v a e h=>by
    rcases s i c e with ⟨n,q⟩|⟨a',m,T,rfl,O,q,r,l⟩
    . exact⟨c,q,h⟩
    . exact⟨_,q,h⟩
   obtain⟨X,q1,k1⟩:=N i c v a e1 r;obtain⟨c2,q2,Y⟩:=N j A S a e2 l;exact F.apart i j X c2 v S a q1 q2 Z e4 k1 Y
theorem zmc(F:Fr3 K H0 G0 ρ σ G H){js:List Nat}{as:List Addr}{ms:List Tb}(l:js.Nodup)(j:holds ρ js as)(b:Bk G' H' as ms){i:Nat}{c:Cl}{v:V}{a:Addr}(e:(updM js as ms ρ)[i]?=some (some c))(p:σ[i]?=some (some v))(h:Has c v a):H a≠none:=by
 have:∃ g,ρ[i]?=some (some g)/\Has g v a:=by
  rcases zcJ l j b i c e with ⟨n,q⟩|⟨r,m,s,rfl,y,q,w,u⟩
  . exact⟨c,q,h⟩
  . exact⟨_,q,h⟩
 obtain⟨g,q,k⟩:=this;obtain⟨⟨o,j,_⟩,_⟩:=(F.vw q p).has k
 grind
theorem Fr3.putN(F:Fr3 K H0 G0 ρ σ G H){i:Nat}{v:V}{c:Cl}(w:Vw K H0 G H v c)(M:∀ a,Has c v a->H0 a=none)(A:∀ (a:Addr) (j:Nat) (c':Cl) (v':V),Has c v a->ρ[j]?=some (some c')->σ[j]?=some (some v')->¬Has c' v' a):Fr3 K H0 G0 (ρ.set i (some c)) (σ.set i (some v)) G H:=by
 have b:∀ {k:Nat} {c':Cl},(ρ.set i (some c))[k]?=some (some c')->(k=i/\c'=c/\(σ.set i _)[k]?=some (some v))\/(k≠i/\ρ[k]?=some _/\(σ.set i (some v))[k]? = σ[k]?):=fun {k c'} e=>by
  rcases zF e with ⟨rfl,q,I⟩|⟨n,q⟩
  . cases q
    exact .inl ⟨rfl,rfl,Yas (by rw [<-F.len];exact I)⟩
  . exact .inr ⟨WbA n,q,Yac n⟩
 refine⟨F.keep,F.sub,F.old,F.g0,fun k c' e=>?_,fun k c' v' a e B h=>?_,fun k m s y E C a L u l g p r=>?_,by rw [YaN,YaN];exact F.len⟩
 . rcases b e with ⟨rfl,rfl,q⟩|⟨n,q,z⟩
   . exact⟨v,q,w⟩
   . obtain⟨v',p,r⟩:=F.slot k c' q
     exact⟨v',by rw [z];exact p,r⟩
 . rcases b e with ⟨rfl,rfl,q⟩|⟨n,q,z⟩
   . simp_all
   . rw [z] at B;exact F.mine k c' v' a q B h
 . rcases b L with ⟨rfl,rfl,q⟩|⟨n,q,z⟩
   . rw [q] at l;cases l
     rcases b u with ⟨rfl,_,_⟩|⟨n,o,z⟩
     . rfl
     . rw [z] at g;exact absurd r (A a m y C p o g)
   . rw [z] at l
     rcases b u with ⟨rfl,rfl,o⟩|⟨N,o,J⟩
     . rw [o] at g;cases g;exact absurd p (A a k s E r q l)
     . rw [J] at g;exact F.apart k m s y E C a q o l g p r
theorem Fr3.forget(F:Fr3 K H0 G0 ρ σ G H)(i:Nat):Fr3 K H0 G0 (ρ.set i none) σ G H:=by
 have b:∀ {k:Nat} {g:Cl},(ρ.set i none)[k]?=some (some g)->k≠i/\ρ[k]?=some _:=fun {k g} e=>by
  rcases zF e with ⟨rfl,q,B⟩|⟨n,q⟩
  . cases q
  . exact⟨WbA n,q⟩
 exact⟨F.keep,F.sub,F.old,F.g0,fun k c e=>F.slot k c (b e).2,fun k c v a e u h=>F.mine k c v a (b e).2 u h,fun k m j r A z a w o l s p y=>F.apart k m j r A z a (b w).2 (b o).2 l s p y,by rw [YaN];exact F.len⟩
theorem Dr.scal(r:Dr K H0 G kvs ds)(h:(ds.all fun p=>zt p.2)=true):Dr K H1 G kvs ds:=by
 induction r with
 | nil=>exact .nil
 | cons a b c=>
  rw [XH,Yak] at h;exact .cons (.sc h.1 a.rd) (c h.2)
theorem Dr.older(g:∀ a,H0 a=none->H1 a=none)(r:Dr K H0 G kvs ds):Dr K H1 G kvs ds:=by
 induction r with
 | nil=>exact .nil
 | cons a b e=>exact .cons ⟨a.rd,fun c=>jV (Same.refl _) (fun x _ _ z=>g x z) (a.nw c)⟩ e
theorem Vw.arg{c:Cl}(w:Vw K H0 G H v c)(h:jm c=true):Vw K H1 G H v (argC c):=by
 cases w with
 | sh r=>exact .sh ⟨r.rd,fun h=>za0 h r.rd⟩
 | dm a b=>exact .dm a b
 | fd a b c=>exact .fd a (b.scal h) c
 | _=>cases h
theorem Vws.arg{H1:Hp}{vs:List V}{cs:List Cl}(w:Vws K H0 G H vs cs)(h:cs.all jm=true):Vws K H1 G H vs (cs.map argC):=by
 induction w with
 | nil=>exact .nil
 | cons a b c=>
  rw [XH,Yak] at h;exact .cons (a.arg h.1) (c h.2)
theorem Vw.res{c:Cl}(w:Vw K H0 G H v c)(e:∀ a,H0 a=none->H1 a=none)(h:JI c=true):Vw K H1 G H v c:=by
 cases w with
 | sh r=>exact .sh ⟨r.rd,fun g=>jV (Same.refl _) (fun x _ _ z=>e x z) (r.nw g)⟩
 | dt a b c=>exact .dt a (b.older e) c
 | _=>cases h
theorem zdN{sp:SpC}(l:∀ cs (Q Q':Cl->List Tb->Prop),(∀ c ms,Q c ms->Q' c ms)->sp cs Q->sp cs Q')(F:Fr3 K H0 G0 ρ σ G H){vs:List V}{cs:List Cl}(w:Vws K H0 G H vs cs){js:List Nat}(o:js.Nodup)(A:cs.all jm=true)(n:holds ρ js (dms cs)){R:Cl->Env3->Prop}(h:sp (cs.map argC) fun c ms=>R c (updM js (dms cs) ms ρ)){Q:VK}{E:XK}
 (q:∀ c ρ' v G' H',Fr3 K H0 G0 ρ' σ G' H'->zh (bar H (dms cs)) H'->Gr G (bar H (dms cs)) G' H'->Vw K H0 G' H' v c->(∀ a,Has c v a->H0 a=none/\∀ (j:Nat) (c':Cl) (v':V),ρ'[j]?=some (some c')->σ[j]?=some (some v')->¬Has c' v' a)->R c ρ'->Q v H'):spC K sp vs H Q E:=by
 have u:∀ a,bar H _ a=none->H0 a=none:=fun a z=>by
  rcases zdh z with y|y
  . obtain⟨j,m,_,r⟩:=zaV n a y
    exact F.mine j _ _ a r (ju F r).1 rfl
  . exact F.keep.free y
 refine⟨G,_,F.sub,w.arg A,by rw [zgh];exact zfC F o n,l _ _ _ (fun c ms k v G' H' g p s b i=>?_) h⟩
 rw [zgh] at g p b;refine q c _ v G' H' (F.called o n g b) g.h g (p.res u i) (fun a z=>⟨F.keep.free (s a z),fun j c' v' e B y=>zmc F o n b e B y (s a z)⟩) k
end
section
variable{es:List Expr}{p:Pos}{x:Str}{k:Nat}{ps:List Str}{sp:SpC}{E:XK}{t:TA3}
def JL(sp:SpC)(t:TA3)(js:List Nat)(R:Cl->Env3->Prop)(ρ : Env3):Prop:=t ρ fun cs=>cs.all jm=true/\holds ρ js (dms cs)/\sp (cs.map argC) fun c ms=>R c (updM js (dms cs) ms ρ)
def Zg(i:Nat)(sp:SpC)(t:TA3)(js:List Nat):TS3:=fun A ρ=>JL sp t js (fun c ρ'=>A.nx (ρ'.set i (some c))) ρ
theorem zdF{i:Nat}{pos' spos:Pos}(l:List Nat)(T:l.Nodup)(hN:X.N.Nodup)(u:X.N[i]?=some y)(hy:Loc X.env.scope y)(o:DfC X.prog X.w X.K X.mg X.base k x ps sp)(hr:Room k X.A)(I:Gl X x)(C:Passes (CXR X.prog X.w) X E)(m:PA3 X H0 (e::es) t)(h:(x==("__debug__" : Str))=false:=by decide)
 (s:starEach (e::es) X.env=(false,eval e X.env)::starEach es X.env:=by rfl) (b:(backTo pos (starEach es X.env)).any (·.1)=false:=by rfl) (O:swapsWith (.Call (.Name x p) (e::es) [] pos) (some (.Name y pos')) spos.line X.env=pure false:=by rfl)
 (Q:X.fn y=true\/X.env.scope.names.lookup y=some .local:=by first|exact .inl rfl|exact .inr rfl|assumption):PS3 X H0 (.Assign [.Name y pos'] (.Call (.Name x p) (e::es) [] pos) spos) (Zg i sp t l):=
 PS.imp (jd hN u hy (jy o.ok hr I C m.ok h s b) O Q) fun B σ H=>el7 fun S A ρ G F q L=>⟨S,ρ,G,F,m.mono ρ _ _ (fun cs g vs G1 H1 M w=>by
  obtain⟨Y,N,K⟩:=g;rw [Yao];exact zdN o.mono (F.gr M) w T Y N K fun c U v Z r W _ _ R n k=>L.nx _ _ Z r (W.putN R (fun a z=>(n a z).1) fun a j J P z=>(n a z).2 j J P) k) q⟩
def Zx(sp:SpC)(t:TA3)(js:List Nat):TS3:=fun A ρ=>JL sp t js (fun _ ρ'=>A.nx ρ') ρ
theorem ziK{spos:Pos}(h:List Nat)(C:h.Nodup)(j:DfC X.prog X.w X.K X.mg X.base k x ps sp)(N:Room k X.A)(o:Gl X x)(n:Passes (CXR X.prog X.w) X E)(i:PA3 X H0 (e::es) t)(g:(x==("__debug__" : Str))=false:=by decide)
 (m:starEach (e::es) X.env=(false,eval e X.env)::starEach es X.env:=by rfl) (a:(backTo pos (starEach es X.env)).any (·.1)=false:=by rfl) (y:swapsWith (.Call (.Name x p) (e::es) [] pos) none spos.line X.env=pure false:=by rfl):PS3 X H0 (.Expr (.Call (.Name x p) (e::es) [] pos) spos) (Zx sp t h):=
 PS.imp (j0 (jy j.ok N o n i.ok g m a) y) fun B σ H=>el7 fun z A ρ G F q L=>⟨z,ρ,G,F,i.mono ρ _ _ (fun Q b P R O s w=>by
  obtain⟨K,u,r⟩:=b;rw [Yao];exact zdN j.mono (F.gr s) w C K u r fun c I v M l J _ _ S T k=>L.nx _ _ M l J k) q⟩
def ZU(sp:SpC)(t:TA3):TE3:=fun ρ Q=>t ρ fun cs=>cs.all jm=true/\dms cs=[]/\sp (cs.map argC) fun c _=>∃ f d,c=.sh f d/\Q (.sh f d)
theorem dfX{E:XK}(Gd:DfC X.prog X.w X.K X.mg X.base k x ps sp)(hr:Room k X.A)(hg:Gl X x)(hx:Passes (CXR X.prog X.w) X E)(ha:PA3 X H0 (e::es) t)(o:(x==("__debug__" : Str))=false:=by decide)
 (y:starEach (e::es) X.env=(false,eval e X.env)::starEach es X.env:=by rfl) (j:(backTo pos (starEach es X.env)).any (·.1)=false:=by rfl):PE3 X H0 (.Call (.Name x p) (e::es) [] pos) (ZU sp t):=by
 refine⟨fun ρ Q Q' h q=>ha.mono ρ _ _ (fun B ⟨a,b,q⟩=>⟨a,b,Gd.mono _ _ _ (fun c U ⟨f,d,e,q⟩=>⟨f,d,e,h _ q⟩) q⟩) q,PE.imp (jy Gd.ok hr hg hx ha.ok o y j) fun σ H Q=>el5 fun G0 ρ G F q=>⟨G0,ρ,G,F,ha.mono ρ _ _ (fun B n O P H1 g1 w=>?_) q⟩⟩
 obtain⟨L,h2,C⟩:=n;rw [Yao];refine zdN Gd.mono (F.gr g1) w Wbb L (by rw [h2];exact XF) (R:=fun c _=>∃ f d,c=.sh f d/\∀ (v:V) (i H':Hp),Gr G H i H'->Vw X.K H0 i H' v (.sh f d)->Q v H') C fun c K v i H' W _ u w' n' k=>?_
 obtain⟨f,d,rfl,k⟩:=k;rw [h2] at u;exact k v i H' (g1.trans u) w'
def Zt(te:TE3):TS3:=fun A ρ=>te ρ fun c=>asS c fun f d=>A.rm (.sh f d) ρ
theorem zcn{te:TE3}(h:PE3 X H0 e te):PS3 X H0 (.Return (some e) pos) (Zt te):=PS.imp (J4 h.ok) fun B σ H=>el7 fun j A ρ G F q L=>
 ⟨j,ρ,G,F,h.mono ρ _ _ (fun c b v m i g w=>by
  obtain⟨f,d,l,q⟩:=j6 b;subst l;exact L.rm _ v ρ σ m i (F.gr g) w (fun a z=>Xj z) q) q⟩
def ZB(i:Nat):TS3:=fun A ρ=>∃ ds,ρ[i]?=some (some (.dt ds))/\A.rm (.dt ds) (ρ.set i none)
theorem zm5{i:Nat}{np:Pos}(r:X.N[i]?=some x)(l:Vis X.env.scope x)(p:(x==("__debug__" : Str))=false:=by decide)(c:(x==("__classdict__" : Str))=false:=by decide):PS3 X H0 (.Return (some (.Name x np)) pos) (ZB i):=PS.imp (J4 (z9 r l p c)) fun B σ H h=>by
 obtain⟨s,A,ρ,G,F,⟨w,b,q⟩,L⟩:=h;obtain⟨v,g,o⟩:=F.slot i _ b;refine⟨v,g,L.rm _ v _ σ G H (F.forget i) o (fun a z=>⟨F.mine i _ v a b g z,fun j u C e m y=>?_⟩) q⟩
 rcases zF e with ⟨rfl,q,_⟩|⟨n,q⟩
 . cases q
 . exact n (F.apart i j _ _ _ _ a b q g m z y)
end
end L3
namespace L2
open PySem PySem.Spec PyProof.Rows L3
theorem zlF(F:X.calm=true):zM X (.builtin "sorted") (fun xs H Q=>∃ (p:Addr) (ns:List Int),xs=[.ref p]/\SqL X.K H p (ns.map V.int)/\ns.length<64/\∀ ms:List Int,ms.Perm ns->ms.Pairwise (·<=·)->∀ l,H l=none->Q (.ref l) (upd H l (.lst (ms.map V.int)))):=by
 intro j s σ H xs G Q I r h;obtain⟨p,ns,rfl,C,w,q⟩:=h;obtain⟨u,rfl,v⟩:=Jl r;cases(v);obtain⟨a,B,m,_⟩:=I.list C;have i:=zaI B;have E:=i.length;refine sorted_ints m.isList i (by simp_all) fun c ms y g A=>?_
 obtain⟨e,n⟩:=sortedAll_at _ a c;have z:=g.length_eq;refine⟨.ref _,_,I.laid (o:=.lst _) (fun b J q=>sortedAll_old q) (W3 _) ⟨?_,_,e,zdM y,n⟩,rfl,q ms g A _ (I.hok.fresh (W3 _))⟩
 grind
end L2
namespace L3
open PySem PySem.Spec PyProof.Rows L2
variable[LamW]
noncomputable def getM(ds:Tb)(k:Int):Option Int:=(ds.find? fun p=>decide (p.1=k)).map (·.2)
noncomputable def putM(ds:Tb)(k v:Int):Tb:=if(ds.any fun p=>decide (p.1=k))=true then ds.map (fun p=>if p.1=k then(p.1,v) else p) else ds++[(k,v)]
def optI:Option Int->D
 | none=>.none
 | some i=>.int i
theorem jp(a:Tb)(k):valV (encM a) (Xn k)=(getM a k).map V.int:=by
 unfold valV getM encM
 induction a with
 | nil=>rfl
 | cons p r b=>
  grind
theorem Ze(a:Tb)(k v):putK (encM a) (Xn k) (.int v)=encM (putM a k v):=by
 have b:((encM a).any fun c=>decide (c.1=(Xn k)))=a.any fun p=>decide (p.1=k):=by
  unfold encM;rw [Ur]
  congr 1
  funext p
  simp
 unfold putK putM;rw [b]
 split
 . unfold encM
   rw [YaD,YaD];refine Yat fun p _=>?_
   grind
 . unfold encM
   simp
theorem Zu(a:Tb):(encM a).length=a.length:=YaR _
section
variable{a b:Expr}{x:Str}
def ZS(i:Nat):TS3:=fun A ρ=>∀ a,A.nx (ρ.set i (some (.dm a [])))
theorem zdq{pos' p:Pos}(l:X.N.Nodup)(e:X.N[i]?=some x)(g:Loc X.env.scope x)(j:swapsWith (.Dict [] [] p) (some (.Name x pos')) pos.line X.env=pure false:=by rfl)
 (c:X.fn x=true\/X.env.scope.names.lookup x=some .local:=by first|exact .inl rfl|exact .inr rfl|assumption):PS3 X H0 (.Assign [.Name x pos'] (.Dict [] [] p) pos) (ZS i):=PS.imp (jd l e g J7 j c) fun B σ H=>el7 fun m A ρ G F q L=>
 fun p b=>L.nx _ _ G _ (F.put (zx b _).x (.dm zf (F.sub.free b)) fun a h=>by cases h;exact b) (q p)
def zaC(i:Nat)(ta te:TE3):TS3:=fun A ρ=>∃ l ds,ρ[i]?=some (some (.dm l ds))/\te ρ fun c=>ta ρ fun ck=>asI ck fun k=>asI c fun v=>ds.length<sizeLine/\A.nx (ρ.set i (some (.dm l (putM ds k v))))
theorem zdj{ta te:TE3}{np spos:Pos}(y:X.A.units+1<cLine)(U:X.N[i]?=some x)(s:Vis X.env.scope x)(p:PE3 X H0 a ta)(o:PE3 X H0 e te)(T:(x==("__debug__" : Str))=false:=by decide)(j:(x==("__classdict__" : Str))=false:=by decide)
 (N:swapsWith e (some (.Subscript (.Name x np) a spos)) pos.line X.env=pure false:=by rfl):PS3 X H0 (.Assign [.Subscript (.Name x np) a spos] e pos) (zaC i ta te):=by
 refine PS.imp (Jj y (z9 U s T j) p.ok o.ok N) fun B σ H m=>?_
 obtain⟨r,A,ρ,G,F,⟨l,M,g,q⟩,L⟩:=m;refine⟨r,ρ,G,F,o.mono ρ _ _ (fun c P v1 C W K I=>?_) q⟩
 have b:=F.gr K;refine⟨_,(ju b g).1,r,ρ,C,b,p.mono ρ _ _ (fun ck z Z Y H2 O E=>?_) P⟩
 obtain⟨k,rfl,w⟩:=jG z;obtain⟨v,rfl,J,R⟩:=jG w;cases zv (zm I).rd;cases zv (zm E).rd;have n:=b.gr O;obtain⟨Q,u,S⟩:=ju n g;exact⟨l,_,rfl,DPut.k (k:=Xn k) u (by rw [Zu];exact J),L.nx _ _ _ _ (n.chg (c':=.dm l (putM M k v)) g Q rfl (fun _ h=>h) (.dm (by rw [zf,Ze]) S)) R⟩
def Zh(i:Nat)(ta:TE3):TE3:=fun ρ Q=>∃ l ds,ρ[i]?=some (some (.dm l ds))/\ta ρ fun c=>asI c fun k=>∃ v,getM ds k=some v/\Q (.sh true (.int v))
theorem zcH{ta:TE3}{np:Pos}(s:X.A.units+1<cLine)(E:X.N[i]?=some x)(p:Vis X.env.scope x)(m:PE3 X H0 a ta)(C:(x==("__debug__" : Str))=false:=by decide)(j:(x==("__classdict__" : Str))=false:=by decide)(z:NoSl a:=by exact fun _ _=>rfl):PE3 X H0 (.Subscript (.Name x np) a pos) (Zh i ta):=by
 refine⟨fun ρ Q J h ⟨l,n,b,q⟩=>⟨l,n,b,m.mono ρ _ _ (fun c q=>?_) q⟩,PE.imp (jL s (z9 E p C j) m.ok z) fun σ H Q=>el5 fun A ρ G F q=>?_⟩
 . obtain⟨k,rfl,v,e,q⟩:=jG q
   exact⟨v,e,h _ q⟩
 obtain⟨l,n,b,q⟩:=q;refine⟨_,(ju F b).1,A,ρ,G,F,m.mono ρ _ _ (fun c u I y B o w=>?_) q⟩
 obtain⟨k,rfl,v,e,q⟩:=jG u;cases zv (zm w).rd;obtain⟨_,r,_⟩:=ju (F.gr o) b;have g:=DGet.k (k:=Xn k) r;rw [jp,e] at g;exact⟨l,_,rfl,g,q _ y B o (.sh (.sc rfl (.int v)))⟩
def ZL(i:Nat)(ta:TE3):TE3:=fun ρ Q=>∃ l ds,ρ[i]?=some (some (.dm l ds))/\ta ρ fun c=>asI c fun k=>Q (.sh true (optI (getM ds k)))
theorem zk8{ta:TE3}{np apos cpos:Pos}(y:X.A.units+1<cLine)(J:X.N[i]?=some x)(u:Vis X.env.scope x)(n:PE3 X H0 a ta)(m:M1 X (.Name x np) "get" apos a cpos:=by exact⟨rfl,rfl,rfl,rfl⟩)(I:(x==("__debug__" : Str))=false:=by decide)(j:(x==("__classdict__" : Str))=false:=by decide):PE3 X H0 (.Call (.Attribute (.Name x np) "get" apos) [a] [] cpos) (ZL i ta):=by
 refine⟨fun ρ Q L h ⟨l,o,b,q⟩=>⟨l,o,b,n.mono ρ _ _ (fun c q=>?_) q⟩,PE.imp (zev y (z9 J u I j) n.ok m) fun σ H Q=>el5 fun C ρ G F q=>?_⟩
 . obtain⟨k,rfl,q⟩:=jG q
   exact h _ q
 obtain⟨l,o,b,q⟩:=q;obtain⟨E,B,_⟩:=ju F b;refine⟨_,E,l,rfl,.inl ⟨_,.inl B⟩,C,ρ,G,F,n.mono ρ _ _ (fun c z K r s p A=>?_) q⟩
 obtain⟨k,rfl,q⟩:=jG z;cases zv (zm A).rd;obtain⟨_,w,_⟩:=ju (F.gr p) b;have g:=DGet.k (k:=Xn k) w;rw [jp] at g;refine⟨_,g,?_⟩;cases e:getM o k with
 | none=>rw [e] at q;exact q _ r s p (.sh (.sc rfl .non))
 | some v=>rw [e] at q;exact q _ r s p (.sh (.sc rfl (.int v)))
def zaA(i:Nat)(ta:TE3):TE3:=fun ρ Q=>∃ l ds,ρ[i]?=some (some (.dm l ds))/\ta ρ fun c=>asI c fun k=>Q (.sh true (.bool (!(getM ds k).isSome)))
theorem zdH{ta:TE3}{np:Pos}(u:X.A.units+1<cLine)(A:X.N[i]?=some x)(o:Vis X.env.scope x)(j:PE3 X H0 a ta)(s:behindInMarks .NotIn (.Name x np)=false:=by rfl)(z:(x==("__debug__" : Str))=false:=by decide)(e:(x==("__classdict__" : Str))=false:=by decide):PT3 X H0 (.Compare a [.NotIn] [.Name x np] pos) (tt3 (zaA i ta)):=by
 refine⟨zbU fun ρ Q B h q=>?_,PT.imp (zae (zb3 u j.ok (z9 A o z e)) s) fun σ H Q=>el5 fun r ρ G F q=>?_⟩
 . obtain⟨l,n,b,q⟩:=q
   refine⟨l,n,b,j.mono ρ _ _ (fun c q=>?_) q⟩
   obtain⟨k,rfl,q⟩:=jG q;exact h _ q
 obtain⟨l,n,b,q⟩:=q;refine⟨r,ρ,G,F,j.mono ρ _ _ (fun c v I E C m w=>?_) q⟩
 obtain⟨k,rfl,q⟩:=jG v;cases zv (zm w).rd;obtain⟨y,p,_⟩:=ju (F.gr m) b;have g:=DGet.k (k:=Xn k) p;rw [jp] at g;exact⟨_,y,l,_,rfl,g,_,rfl,by rw [WaL];exact q _ _ m⟩
def srtL(ta:TA3):TN3:=fun ρ Q=>ta ρ fun cs=>∃ c,cs=[c]/\c.dat=true/\∃ ns:List Int,c.d=.list (ns.map .int)/\ns.length<64/\∀ ms:List Int,ms.Perm ns->ms.Pairwise (·<=·)->Q true (ms.map Xa)
theorem zgi{K:Ybf}{G:Hp}:∀ {ns:List Int} {xs:List V},RdVs K G xs (ns.map Xa)->xs=ns.map V.int:=by
 intro ns;induction ns with
 | nil=>intro _ h;cases h;rfl
 | cons n r f=>intro _ h;cases h with|cons a t=>cases a;rw [f t];rfl
theorem zjU(b:List Int):Rfs K H0 G true (b.map V.int) (b.map Xa):=by
 induction b with
 | nil=>exact Rfs.nil
 | cons a r c=>exact Rfs.cons (f:=true) (.sc rfl (.int a)) c
theorem zmR{np:Pos}{ta:TA3}(L:X.calm=true)(B:Gl X "sorted")(z:X.mg "sorted" = none)(i:PA3 X H0 [a] ta)
 (u:starEach [a] X.env=(false,eval a X.env)::starEach [] X.env:=by rfl) (g:(backTo pos (starEach [] X.env)).any (·.1)=false:=by rfl):PN3 X H0 (.Call (.Name "sorted" np) [a] [] pos) (srtL ta):=by
 refine⟨fun ρ Q S h q=>i.mono ρ _ _ (fun C zz0 => by obtain ⟨c,O,o,j,n,m,q⟩ := zz0; exact ⟨c,O,o,j,n,m,fun e a b=>h _ _ (q e a b)⟩) q,PE.imp (ZW (zlF L) B z (by rfl) i.ok #[1] #[1] u g) fun σ H Q=>el5 fun K ρ G F q=>⟨K,ρ,G,F,i.mono ρ _ _ (fun C r R E y s w=>?_) q⟩⟩
 refine Hd fun k Y=>?_;obtain⟨c,rfl,o,j,n,m,q⟩:=r;apply Y;obtain⟨v,rfl,I⟩:=vws1 w;obtain⟨l,T,rfl,J,P⟩:=zag I s.sub o n;cases zgi P.rd;exact⟨l,j,rfl,J,m,fun e M N p A=>q e M N p _ E y s A (zjU e)⟩
def ninT3:R3:=fun a b Q=>a.dat=true/\b.dat=true/\asT b.d fun xs=>Xt a.d=true/\Xt (.tuple xs)=true/\Q true (.bool (!xs.any fun y=>XL y a.d))
theorem zlO(n:X.A.units+65<cLine):OpOk X (compareOp .NotIn) ninT3:=by
 refine⟨fun a b Q O h q=>?_,fun R=>?_⟩
 . obtain⟨F,C,q⟩:=q
   obtain⟨K,e,A,B,q⟩:=Z3 q;refine⟨F,C,?_⟩;rw [e];exact⟨A,B,h _ _ q⟩
 intro l s σ H x y v u Q I J z c;refine Hd fun k Y=>?_;obtain⟨G,a,b,g,o,L,r,w,q⟩:=c;apply Y;have M:=o.rd g r;have j:=L.rd g w;obtain⟨K,e,i,m,q⟩:=Z3 q;rw [e] at j;obtain⟨P,p⟩:=M.reads I J;obtain⟨N,E⟩:=j.reads I z;exact SeqAt.notIn_tuple_reads E p (Wb m) (Wb i) (room_in_shaped i n) ⟨.bl _,H,I,rfl,q _ G H (Gr.refl g) (.sc rfl (.bl _))⟩
def Zs(i:Nat)(ta tb:TE3):TE3:=fun ρ Q=>∃ ds,ρ[i]?=some (some (.fd ds))/\ta ρ fun ka=>tb ρ fun kb=>asI ka fun m=>asI kb fun n=>Q (.sh true (.bool (!(getT ds (kk m n)).isSome)))
theorem zjC{ta tb:TE3}{np tp:Pos}{k1}(L:X.A.units+1<cLine)(hN:X.N[i]?=some x)(J:Vis X.env.scope x)(s:PE3 X H0 a ta)(u:PE3 X H0 b tb)(K:behindInMarks .NotIn (.Name x np)=false:=by rfl)(hd:(x==("__debug__" : Str))=false:=by decide)(j:(x==("__classdict__" : Str))=false:=by decide)
 (y:starEach [a,b] X.env=(false,eval a X.env)::starEach [b] X.env:=by rfl) (w:starEach [b] X.env=(false,eval b X.env)::starEach [] X.env:=by rfl) :
 PE3 X H0 (.Compare (.Tuple [a,b] k1 tp) [.NotIn] [.Name x np] pos) (Zs i ta tb):=by
 refine⟨fun ρ Q Q' h q=>?_,PE.imp (znz (zb3 L (zbS (zn s.ok (zn u.ok zJ w) y)) (z9 hN J hd j)) K) fun σ H Q=>el5 fun C ρ G F q=>?_⟩
 . obtain⟨B,e,q⟩:=q
   refine⟨B,e,s.mono ρ _ _ (fun T q=>u.mono ρ _ _ (fun U Y=>?_) q) q⟩
   obtain⟨m,rfl,r⟩:=jG Y;obtain⟨n,rfl,c⟩:=jG r;exact h _ c
 obtain⟨B,e,q⟩:=q;refine⟨C,ρ,G,F,s.mono ρ _ _ (fun T r v2 O H2 z N=>?_) q⟩
 refine⟨C,ρ,O,F.gr z,u.mono ρ _ _ (fun U c v3 Z H3 v S=>?_) r⟩
 obtain⟨m,rfl,q⟩:=jG c;obtain⟨n,rfl,q⟩:=jG q;cases zv (zm N).rd;cases zv (zm S).rd;refine⟨show 2<=sizeLine by decide,fun p M=>?_⟩
 have I:=Gr.apart (o:=.tup [.int m,.int n]) v.sub M;have E:=((F.gr z).gr v).gr I;refine Hd fun k V=>?_;obtain⟨l,o,A,W,R,P,_⟩:=zdA E e;apply V;have g:DGet _ l _ _:=.inr ⟨A,kk m n,p,.inr ⟨o,E.sub.s _ _ R⟩,rfl,zf,rfl⟩;refine⟨.ref l,W,l,_,rfl,g,?_⟩;rw [P.some];exact q _ Z _ ((z.trans v).trans I) (.sh (.sc rfl (.bl _)))
end
variable[LamW]
section
variable{x:Str}{J:List Nat}{l:List Stmt}{u:Env3->D->TS3}
variable{w:Env3->TS3}{jr:Nat}
end
end L3
namespace L2
open PySem PySem.Spec PyProof.Rows
theorem zeV(h:(ji P w).is k u=true):RelV (kV k) u:=by
 rcases j9 h with ⟨i,t,rfl,rfl⟩|⟨x,t,rfl,rfl⟩
 . exact⟨t,rfl⟩
 . exact⟨t,rfl⟩
theorem zc9{α β : Type}{F:α->β->Prop}:∀ {l:List α} {m:List β},Paired F l m->∀ {j:Nat} {a:α},l[j]?=some a->∃ b,m[j]?=some b/\F a b:=by
 intro l m h;induction h with
 | nil=>intro j a h;simp at h
 | cons x _ f=>
  intro j a h;cases j with
  | zero=>simp_all
  | succ j=>exact f h
theorem zak(I:Inv X pins σ H s){kvs:List (Key×V)}(h:H d=some (.frz o (.dK kvs))):∃ vs ep es,s.heap.get? d=some o/\o.ExactDict/\o.data=.dict es ep/\(d==sysModules)=false/\KV kvs vs/\s.heap.DictAt (ji X.prog X.w) d vs ep/\s.heap.DictOf (ji X.prog X.w) d vs:=by
 refine Hd fun G k=>?_;obtain⟨i,_,l,vs,a,c,es,ep,j,g,b,r⟩:=(I.hok d _ h);apply k;have e:c=o:=by simp_all
 subst e;exact⟨vs,ep,es,i,g,b,l,a,⟨c,es,i,g,b,r⟩,⟨c,es,ep,i,g,b,r⟩⟩
theorem zig:entryFor table "dict_itemiterator.__iter__" = some Builtin.«dict_keyiterator.__iter__»:=
 entryFor_alias (id':="dict_keyiterator.__iter__") (by kernel_rfl) rfl #[3] (by kernel_rfl)
noncomputable def Iti(d:Addr)(o:Obj)(kvs:List (Key×V)):It:=
 ⟨fun i H=>(∃ p,kvs[i]?=some p)/\H d=some (.frz o (.dK kvs)),
  fun i H x H'=>∃ a k v,H a=none/\x=.ref a/\kvs[i]?=some (k,v)/\H'=upd H a (.tup [kV k,v]),
  fun i H=>i=kvs.length/\H d=some (.frz o (.dK kvs))⟩
theorem zkH{kvs:List (Key×V)}(he:o.data=.dict es0 ep):Turn P w K (.Tuple elts n pos) (Iti d o kvs) [it] it (fun i h=>∃ ok ov,IsItemIter h it d i kvs.length ep ok ov) where
 mem:=by simp
 obj:=fun i h g b v=>by
  grind
 keep:=fun i h h' ⟨ok,ov,g⟩ k=>⟨ok,ov,k it (by simp) _ g⟩
 item:=by
  intro X T hw N hc i l s σ H E I U g R;subst T hw N;refine Hd fun ζ ξ=>?_;obtain⟨⟨⟨k,x⟩,hx⟩,hH⟩:=R;obtain⟨vs,r,es,hd,Y,j,hs,m,a,_⟩:=zak I hH;apply ξ;have y:r=ep:=by rw [he] at j;cases j;rfl
  subst y;have M:=Wbd m;refine Hd fun ζ ξ=>?_;obtain⟨⟨k',u⟩,hu,hk,ru⟩:=zc9 m hx;apply ξ;subst hk;obtain⟨ok,ov,g⟩:=g;rw [M] at g;refine Hd fun ζ ξ=>?_;obtain⟨L,S,f2,Z,f4,f5⟩:=U it (by simp);apply ξ
  have J:=YaX g;refine wpAny_pyNext_items_item g a hu fun F h' C a0 O sz kp=>⟨_,rfl,wpAny_letOwnedTupleGo_items a0 fun h2 a1 sb=>?_⟩
  have I1:Inv X l σ H { s with heap:=h2,toks:=s.toks }:=I.turned (fun b o v e=>(sb.2 b v).trans (kp b o v e)) L S Z f4 f5
  have G:=YaY s.heap.objs.size;have B:=I.hok.fresh G;have a2:=(sb.2 s.heap.objs.size (Wbo J)).trans O;have I2:Inv X l σ (upd H s.heap.objs.size (.tup [kV k,x])) _:=I1.track B (Ya5 I.sz G) (Wbo (YaU I.lt G)) (fun n c e z=>by
   obtain⟨vv,q⟩:=I.cell n c e;exact absurd (YaU q.lt (by rw [z];exact G)) (Yap _)) (fun p hp z=>absurd (YaU (YaX (I.pin p hp).1) (by rw [z];exact G)) (Yap _))
   ⟨by show 2<=sizeLine;decide,[F,u],.cons (zeV C) (.cons ru .nil),_,a2,rfl,_,rfl⟩
  refine⟨.ref s.heap.objs.size,_,I2,rfl,⟨_,k,x,B,rfl,hx,rfl⟩,⟨F,u,by rw [M];exact a1⟩,fun b v=>?_⟩
  have e:b=it:=by simpa using v
  subst e;rw [zc (Yaf J)];exact L
 done:=by
  intro X T hw N hc i l s σ H E I U g R;subst T hw N;obtain⟨hi,hH⟩:=R;refine Hd fun ζ ξ=>?_;obtain⟨vs,r,es,hd,Y,j,hs,m,a,_⟩:=zak I hH;apply ξ;have y:r=ep:=by rw [he] at j;cases j;rfl
  subst y;have M:=Wbd m;obtain⟨ok,ov,g⟩:=g;rw [M] at g hi;refine Hd fun ζ ξ=>?_;obtain⟨L,S,f2,Z,f4,f5⟩:=U it (by simp);apply ξ
  exact wpAny_pyNext_items_end (I.ok.hd hc) g a (by rw [hi];exact Wav (YaY _)) fun h' eb=>⟨rfl,I.turned (t':=s.toks) (fun b o v e=>eb b o v e) L S Z f4 f5⟩
 self:=fun A i s Q E ⟨ok,ov,g⟩ h=>by
  have W:s.TypeIs (.ref it) "dict_itemiterator":=⟨_,g,rfl⟩;refine wpAny_pyIter_slot W X1 (wpAny_call_entry X1 W zig ?_ (PySem.F.args_dict_itemiterator_iter_1 _));exact wpAny_pure ⟨_,rfl,"dict_itemiterator", _,W,PySem.F.slot_dict_itemiterator_next.lookup,h⟩
def zij(tl:TE):TI:=fun σ H R=>tl σ H fun v H1=>∃ d o kvs,v=.ref d/\H1 d=some (.frz o (.dK kvs))/\R (Iti d o kvs) H1
theorem znH{l:Expr}(J:PE X l tl)(p:attributeBase l "items" X.env (eval l X.env)=eval l X.env:=by rfl)(i:(apos.endLine==pos.line)=true:=by rfl):PI X (.Tuple elts n tpos) (.Call (.Attribute l "items" apos) [] [] pos) (zij tl):=by
 intro c s σ H R I h;refine wpAny_Call_method (T:="dict") (id:="dict.items") p rfl i Wak Y4 PySem.F.type_dict_items (wpAny_mono (J c s σ H _ I h) (fun v j q=>?_) fun _ _ z=>z)
 refine Hd fun k Q=>?_;obtain⟨x,A,y,C,d,o,kvs,rfl,E,q⟩:=q;apply Q;cases(show v=Xs d from C)
 refine Hd fun k Q=>?_;obtain⟨m,ep,L,M,G,B,F,r,g,a⟩:=zak y E;apply Q;have w:kvs.length=m.length:=Wbd r;refine⟨a.typeIs,a.mapOf.noDict,?_⟩;refine method_meetsIn Y4 PySem.F.entry_dict_items rfl (PyProof.Rows.evalArgs_none ⟨rfl,a.typeIs,PySem.F.args_dict_items_1 _,_,meets_dict_items (ji X.prog X.w) d F,⟨m,a⟩,?_⟩);have u:Inv X c σ A { j with heap:=j.heap.push { cls:=.type "dict_items", data:=.fields #[.ref d] },toks:=j.toks }:=y.kept fun b o e=>YaW _ e
 refine wpAny_pyIter_items (knd:=ji X.prog X.w) (d:=d) (kvs:=m) (ep:=ep) ⟨_,Yan _ rfl,rfl,rfl⟩ (g.push _) ?_
 have K:=u.kept (t':=j.toks) (h':=(j.heap.push { cls:=.type "dict_items", data:=.fields #[.ref d] }).push { cls:=.type "dict_itemiterator", data:=.fields #[.none,.bool false,.ref d,.int 0 0,.int m.length 0,.int ep 0,.none,.none] }) fun b o e=>YaW _ e
 refine⟨_,_,_,Iti d o kvs,A,rfl,K,zkH B,⟨.none,.none,by rw [w];exact Yan _ rfl⟩,fun b p=>?_,q⟩
 have e:b=(j.heap.push { cls:=.type "dict_items", data:=.fields #[.ref d] }).objs.size:=by simpa using p
 subst e;exact u.fpOk (YaY _) (u.hok.fresh (YaY _))
def Itk(d:Addr)(o:Obj)(kvs:List (Key×V)):It:=
 ⟨fun i H=>(∃ p,kvs[i]?=some p)/\H d=some (.frz o (.dK kvs)),
  fun i H x H'=>H'=H/\∃ k v,kvs[i]?=some (k,v)/\x=kV k,
  fun i H=>i=kvs.length/\H d=some (.frz o (.dK kvs))⟩
theorem zkm{kvs:List (Key×V)}(S:o.data=.dict es0 ep):Turn P w K tg (Itk d o kvs) [it] it (fun i h=>h.IsKeyIter it d i kvs.length ep) where
 mem:=by simp
 obj:=fun i h j b n=>by
  have e:=by simpa using n
  refine Hd fun ζ ξ=>?_;obtain⟨o,e,c,d⟩:=j;apply ξ
  simp_all
 keep:=fun i h N j k=>by
  refine Hd fun ζ ξ=>?_;obtain⟨o,e,c,d⟩:=j;apply ξ;exact⟨o,k it (by simp) o e,c,d⟩
 item:=by
  intro X J R A U i m s σ H E I y j B;subst J R A;refine Hd fun ζ ξ=>?_;obtain⟨⟨⟨k,x⟩,T⟩,L⟩:=B;obtain⟨vs,q,es,hd,M,g,hs,l,a,_⟩:=zak I L;apply ξ;have p:q=ep:=by rw [S] at g;cases g;rfl
  subst p;have z:=Wbd l;refine Hd fun ζ ξ=>?_;obtain⟨⟨k',u⟩,hu,Y,ru⟩:=zc9 l T;apply ξ;subst Y;rw [z] at j;refine Hd fun ζ ξ=>?_;obtain⟨G,F,f2,O,C,Q⟩:=y it (by simp);apply ξ
  refine wpAny_pyNext_dict_item j a hu fun a0 N v r sb=>?_
  have W:Inv X m σ H { s with heap:=N,toks:=s.toks }:=I.turned (fun b o n e=>(sb.2 b n).trans e) G F O C Q
  exact⟨_,rfl,letGo_keyiter r ⟨kV k,H,W,zeV v,⟨rfl,k,x,T,rfl⟩,by rw [z];exact r,fun b n=>(y b n).1⟩⟩
 done:=by
  intro X J R A U i m s σ H E I y j B;subst J R A;obtain⟨Z,L⟩:=B;refine Hd fun ζ ξ=>?_;obtain⟨vs,q,es,hd,M,g,hs,l,a,_⟩:=zak I L;apply ξ;have p:q=ep:=by rw [S] at g;cases g;rfl
  subst p;have z:=Wbd l;rw [z] at j Z;refine Hd fun ζ ξ=>?_;obtain⟨G,F,f2,O,C,Q⟩:=y it (by simp);apply ξ
  exact wpAny_pyNext_dict_end (I.ok.hd U) j a (by simp_all) fun N eb=>⟨rfl,I.turned (fun b o n e=>eb b o n e) G F O C Q⟩
 self:=fun _ _ _ _ _ j h=>wpAny_pyIter_keyiter j h
def zny(tl:TE):TI:=fun σ H R=>tl σ H fun v H1=>∃ d o kvs,v=.ref d/\H1 d=some (.frz o (.dK kvs))/\R (Itk d o kvs) H1
theorem zee{l:Expr}(A:PE X l tl):PI X tg l (zny tl):=by
 intro j s σ H R I h;refine thn (A _ s σ H _ I h) fun v C ξ=>?_
 refine Hd fun ν ζ=>?_;obtain⟨x,n,c,p,z⟩:=ξ;apply ζ;obtain⟨d,o,B,rfl,u,q⟩:=z;cases(p);refine Hd fun k Q=>?_;obtain⟨E,F,G,J,y,m,w,g,a,_⟩:=zak c u;apply Q;have i:=Wbd g;refine wpAny_pyIter_dict w a ?_;refine⟨_,_,_,_,n,rfl,c.kept fun b o e=>YaW _ e,zkm m,⟨_,Yan _ rfl,rfl,by rw [i];rfl⟩,fun b r=>?_,q⟩
 have e:=by simpa using r
 subst e;exact c.fpOk (YaY _) (c.hok.fresh (YaY _))
theorem Inv.frzK(I:Inv X pins σ H s){kvs:List (Key×V)}(b:H l=some (.dK kvs)):∃ o,Inv X pins σ (upd H l (.frz o (.dK kvs))) s:=by
 obtain⟨c,m,i,g,o,n,j,a,h,r⟩:=(I.hok l _ b);exact⟨o,I.write (by rw [b];exact XF) (.inl rfl) (fun _ _ _ e=>e) ⟨o,a⟩ ⟨a,c,m,i,g,o,n,j,a,h,r⟩⟩
theorem Inv.thawK(I:Inv X pins σ H s){kvs:List (Key×V)}(j:H l=some (.frz o (.dK kvs)))(Q:∀ o u,X.H₀ l≠some (.frz o u)):Inv X pins σ (upd H l (.dK kvs)) s:=by
 obtain⟨P,O,G,E,C,K,M,F,w,g,r⟩:=(I.hok l _ j);have a:∀ b,H b=none->b≠l:=fun b e z=>by simp_all
 refine⟨I.ok,I.os,I.bare,⟨I.base.keep,I.base.slot,fun b i q n g=>?_,I.base.there,fun b A q=>?_,fun b i u q=>?_,fun b L q=>?_⟩,I.loc,I.cell,?_,fun x c e=>?_,fun p h=>?_,fun b u q=>?_,I.len⟩
 . have e:=I.base.free b i q n g;rw [zc (a b e)];exact e
 . have e:=I.base.tups b A q;rw [zc (fun z=>by rw [z,j] at e;cases e)];exact e
 . have e:=I.base.frzs b i u q;rw [zc (fun z=>by grind)];exact e
 . obtain⟨m,e⟩:=I.base.tbls b L q;exact⟨m,by rw [zc (fun z=>by simp_all)];exact e⟩
 . rw [zc (a _ I.free)];exact I.free
 . rw [zc (a _ (I.freeC x c e))];exact I.freeC x c e
 . obtain⟨J,B,N⟩:=I.pin p h
   exact⟨J,by rw [zc (a _ B)];exact B,N⟩
 . by_cases y:b=l
   . subst y
     rw [zf] at q;cases q;exact⟨O,G,E,C,K,M,F,w,g,r⟩
   . rw [zc y] at q
     exact(I.hok b u q).stay (fun c v _ r=>r) (fun c r=>by rw [zc (fun z=>by simp_all)];exact r) fun c A r=>by rw [zc (fun z=>by rw [z,j] at r;cases r)];exact r
noncomputable def zaT(X:Cx)(N:List Str)(qual:Str)(scope:Scope)(f:Addr)(cd:Value)(cl:List (Str×Addr))(A:Around)(s:Shared)(H:Hp):Cx where
 prog:=X.prog
 w:=X.w
 K:=X.K
 mg:=X.mg
 base:=X.base
 A:=A.deeper (WM qual scope s.heap.objs.size f cd cl)
 N:=N
 s₀:=s
 H₀:=H
 env:=WM qual scope s.heap.objs.size f cd cl
 outer:=X.stack
 stack:=WM qual scope s.heap.objs.size f cd cl::X.stack
 ex:=[]
 calm:=true
 fn:=fun _=>false
 pn:=[]
 xe:=fun _ _=>False
structure LamSc(sc:Scope)(x y:Str):Prop where
 kind:sc.kind=.function
 co:sc.isCoroutine=false
 gen:sc.isGenerator=false
 nocell:∀ z∈sc.names,z.2≠.cell
 par:sc.names.lookup x=some .local
 cap:sc.names.lookup y=some .free
 only:∀ z,sc.names.lookup z=some .free->z=y
theorem LamSc.of{sc:Scope}{x y:Str}(only:(sc.names.all fun p=>(p.2 != .free||p.1==y)&&p.2 != .cell)=true)(kind:sc.kind=.function)(co:sc.isCoroutine=false)(gen:sc.isGenerator=false)(par:sc.names.lookup x=some .local)(cap:sc.names.lookup y=some .free)(_:True):LamSc sc x y where
 kind:=kind
 co:=co
 gen:=gen
 nocell:=fun z i e=>by
  have:=WaX.mp only z i
  simp_all
 par:=par
 cap:=cap
 only:=fun z i=>by
  have:=WaX.mp only _ (WaA i)
  grind
theorem zgM{α β : Type}[BEq α][LawfulBEq α]{l:List (α×β)}{a:α}{b:β}(h:l.lookup a=some b):(a,b)∈l:=by
 induction l with
 | nil=>cases h
 | cons p r c=>
  grind
section
variable{x:Str}{sc:Scope}{f c:Addr}{tu:Value}{tv:V}
theorem zl1(S:LamSc sc x y)(G:x≠y)(I:Inv X pins σ H s)(N:A.frames=some X.stack)(M:A.handled=none)(J:RelV v u)(O:RelV tv tu)(L:s.heap.IsCell c (some tu))(B:H c=none){h₁ : Heap}
 (E:h₁.Ns s.heap.objs.size fun z=>[(x,u)].reverse.lookup z) (r:∀ b o,s.heap.get? b=some o->h₁.get? b=some o) :
 Inv (zaT X [x,y] qual sc f cd [(y,c)] A s H) [] [some v,some tv] H { s with heap:=h₁,toks:=tk }:=by
 have n:h₁.IsCell c (some tu):=by obtain⟨o,e,d⟩:=L;exact⟨o,r _ _ e,d⟩
 have q:∀ z C,([(y,c)]).lookup z=some C->z=y/\C=c:=fun z C e=>by
  have:=zgM e
  simp at this
  exact this
 have l:∀ b:Addr,b∉(zaT X [x,y] qual sc f cd [(y,c)] A s H).ex:=fun b z=>absurd (show b∈([]) from z) (by simp)
 refine⟨⟨I.ok.mod,S.kind,rfl,rfl,YaY _,fun a b d g j=>?_,fun a m=>?_,fun a d F _=>absurd (show false=true from F) (by simp),fun _=>M,Wp N,.inr ⟨rfl,rfl⟩,fun b z=>absurd z (l b),I.bs,Ya5 I.ok.bsz I.sz,fun b _ _=>l b,fun b z=>absurd z (l b),I.stack,I.stkFree⟩,
  rfl,I.bare,Un.kept r,⟨_,E,fun i z w g j P=>?_⟩,fun a d h=>?_,I.hok.fresh (YaY _),fun a d h=>?_,fun p K=>absurd (show p∈([]) from K) (by simp),I.hok.kept r,rfl⟩
 . rw [(q _ _ g).1,(q _ _ j).1]
 . rcases m with m|m
   . exact absurd rfl (S.nocell _ (zgM m))
   . rw [S.only a m];exact⟨c,by show W1 y [(y,c)]=_;simp⟩
 . have g:([x,y])[i]?=some z:=g
   match i,g,j with
   | 0,g,j=>
    cases g;cases j
    exact⟨u,J,.inl ⟨S.par,by simp⟩⟩
   | 1,g,j=>
    cases g;cases j
    exact⟨tu,O,.inr ⟨.inr S.cap,c,by show W1 y [(y,c)]=_;simp,n⟩⟩
   | i+2,g,j=>simp at g
 . have:=(q _ _ h).2;rw [this];exact⟨_,n⟩
 . have:=(q _ _ h).2;rw [this];exact B
theorem zhA(S:LamSc sc x y)(l:x≠y)(I:Inv X pins σ H s)(M:A.frames=some X.stack)(J:A.handled=none)(a:A.depth<recursionLimit)(F:RelV v u)(N:RelV tv tu)(G:s.heap.IsCell c (some tu))(m:H c=none)
       {Q:VK}
 (B:s.heap.get? f=some (XN name qual params body sc [(y,c)] pm cd' ctv)) (n:s.heap.CodeRec (.ref cd') qual)
 (g:bindArgs (Ua name qual params body sc [(y,c)] pm (.ref cd') ctv) ⟨[u],[]⟩=pure [(x,u)])
 (K:PE (zaT X [x,y] qual sc f (.ref cd') [(y,c)] A s H) body t) (E:t [some v,some tv] H Q) :
 wpAny (model X.prog X.w) A (call (.ref f) [u]) (fun r s'=>∃ v' H',Inv X pins σ H' s'/\Un (frs X.stack) [] H H' s.heap s'.heap/\RelV v' r/\Q v' H') (fun _ _=>False) s:=by
 refine wpAny_call (PySem.W.kla_callFunE a B rfl S.co S.gen rfl n ?_)
 rw [g];refine wpAny_pure (wpAny_newFunctionEnv S.nocell (fun z L=>?_) (fun w p i=>⟨I.nolimit.fresh _ i,?_⟩) S.kind)
 . obtain rfl:z=(x,u):=Ya6.mp L
   exact S.par
 have h:=fun b o e=>i.extBut b o (Yaf (YaX e)) (YaW _ e)
 have C:=zl1 (cd:=.ref cd') (f:=f) (qual:=qual) (tk:=s.toks+[(x,u)].length) S l I M J F N G m p h;refine PySem.W.kla_codeExpr (wpAny_mono (K [] _ _ H Q C E) (fun r s' O=>?_) fun _ _ z=>z.elim)
 obtain⟨v',H',j,P,q⟩:=O;exact⟨v',H',I.call' j.os j.base j.hok j.bare (fun b z=>absurd (show b∈([]) from z) (by simp)),j.base,P,q⟩
end
variable[LamW]
def TabS(b:Bool)(P:Addr)(H:Hp):Prop:=match b with
 | true=>H P=some (tab0 P)
 | false=>Lk P H
def MvS(b:Bool)(P:Addr)(H H1:Hp):Prop:=match b with
 | true=>(∃ c',H c'=none/\H1=upd (upd H P (tabA P c' LamW.pos)) c' (Jc c' LamW.q))/\(∀ C,tab0 P≠excO P C)/\∀ q,tab0 P≠Jc P q
 | false=>H1=H
theorem TabS.at{b:Bool}{P:Addr}{H:Hp}(h:TabS b P H):∃ o,H P=some o:=by
 cases b with
 | true=>exact⟨_,h⟩
 | false=>
  obtain⟨_,h,_⟩:=h
  grind
theorem MvS.x{b:Bool}{P:Addr}{H H1:Hp}(l:TabS b P H)(m:MvS b P H H1):zh H H1:=by
 cases b with
 | true=>
  obtain⟨⟨c,j,rfl⟩,n⟩:=m;have l:H P=some _:=l;have g:P≠c:=fun z=>by grind
  intro a o e;have i:a≠c:=fun z=>by grind
  by_cases h:a=P
  . subst h
    rw [l] at e;cases e;exact .inr ⟨rfl,n,c,by rw [zc g,zf],zf⟩
  . exact .inl (by rw [zc i,zc h];exact e)
 | false=>
  cases(m)
  exact zh.refl _
theorem zhG{P:Addr}(a:h.get? P=some (Ye #[])):(∀ C,tab0 P≠excO P C)/\∀ q,tab0 P≠Jc P q:=by
 refine⟨fun C z=>?_,fun q z=>?_⟩
 . have e:=HO.ext.inj z
   have y:=(congrFun e h).mp a
   simp_all
 . have e:=HO.ext.inj z
   have y:=(congrFun e h).mp a;obtain⟨b,m,l,t,g,i,j,c⟩:=y
   simp_all
theorem zkl(r:h.CodeRec (.ref c') q):zQ P w H h c' (Jc c' q):=by
 obtain⟨j,b,i,t,e,a,g,c⟩:=id r;cases e;exact⟨r,⟨b,a⟩,fun m l zz0 k => by obtain ⟨j,b,i,t,e,a,g,c⟩ := zz0; exact by cases e;exact⟨_,b,i,t,rfl,k _ a,g,c⟩⟩
section
variable{sc:Scope}{b:Bool}
theorem zh4(I:Inv X pins σ H s){P:Addr}{c0:Addr}{params:Arguments}{body:Expr}{pos:Pos}{clos:List (Str×Addr)}(w:pos=LamW.pos)(O:X.env.qual ++ "<lambda>" = LamW.q){Q:Value->Shared->Prop}{E:Value->Shared->Prop}
 (F:TabS b P H) (hC:Yf X.base c0 P) (j:X.env.code=.ref c0) (hB:∃ bm o,X.mg "__builtins__" = some (.ref bm)/\bm≠builtinsNs/\bm≠mainGlobals/\X.base.get? bm=some o/\o.cls=.type "module"/\o.dict=some builtinsNs/\o.data=.plain)
 (B:defaultsOf params X.env=([],[])) (J:closureFor sc X.env=pure clos)
 (h:∀ f c' ctv s' H1,MvS b P H H1->H1 c'=some (Jc c' (X.env.qual ++ "<lambda>"))->s.heap.objs.size<=f->
  Inv X (pins++[(f,XN "<lambda>" (X.env.qual ++ "<lambda>") params body sc clos ((X.mg "__name__").getD .none) c' ctv)]) σ H1 s'->Q (.ref f) s') :
 wpAny (model X.prog X.w) A (eval (.Lambda params body sc pos) X.env) Q E s:=by
 have a2:∃ o,H P=some o:=F.at;have C:∀ b o,X.base.get? b=some o->b≠P:=fun b o e z=>by
  have:=(I.bs b o e).2;obtain⟨u,hu⟩:=a2;rw [z,hu] at this;cases this
 have hg:=I.ok.mod.glob.keeps I.bk;have Z:mainGlobals≠P:=by
  obtain⟨o,es,ep,e,_⟩:=I.ok.mod.glob;exact C _ _ e
 obtain⟨bm,ob,b1,b2,b3,T,b5⟩:=hB;cases b with
 | true=>
  obtain⟨l,_,_⟩:=I.hok P _ F;refine WU B (PySem.W.kla_makeFunction (mg:=X.mg) J I.ok.glob hg j (hC.keeps I.bk) l trivial rfl Z ⟨bm,ob,b1,b2,b3,C _ _ T,I.bk _ _ T,b5⟩ fun c' ctv y S hx g M K a1=>?_)
  have U:∀ (o:Obj) b u,b≠P->s.heap.get? b=some u->(y.push o).get? b=some u:=fun o b u Y e=>YaW _ (hx b u Y e)
  have n:P<s.heap.objs.size:=YaX l;have a:=Wbn (WaE g M);have m:∀ o:Obj,(y.push o).get? P=some _:=fun o=>YaW _ (by simpa using a1)
  have R:Inv X pins σ (upd H P (tabA P c' pos)) { s with heap:=y.push (XN "<lambda>" (X.env.qual ++ "<lambda>") params body sc clos ((X.mg "__name__").getD .none) c' ctv),toks:=S }:=
   I.write (by rw [F];trivial) (.inl rfl) (fun b u Y e=>U _ b u Y e) ⟨_,m _⟩ ⟨⟨_,m _,by simpa using TriplesOk_snoc pos.line pos.col (.ref c') [] trivial,by simpa using codeAmong_snoc (pos:=pos) (c:=.ref c') [] trivial rfl⟩,⟨_,m _⟩,fun h1 h2 ⟨ps,e,r⟩ k=>⟨ps,k _ e,r⟩⟩
  have G:H c'=none:=I.hok.fresh g;have N:upd H P (tabA P c' pos) c'=none:=by rw [zc (Wbo (YaU n g))];exact G
  have I2:=R.track N (Ya5 I.sz g) (Wbo (YaU I.lt g)) (fun z c e q=>by
   obtain⟨v,o,W,_⟩:=I.cell z c e;exact absurd (YaU (YaX W) g) (by rw [q];exact Yap _))
   (fun p i q=>absurd (YaU (YaX (I.pin p i).1) g) (by rw [q];exact Yap _)) (zkl (by
    obtain⟨c2,oc,vs,t,e,W,hd,hv⟩:=K;cases e;exact⟨_,oc,vs,t,rfl,YaW _ W,hd,hv⟩))
  have a0:upd (upd H P (tabA P c' pos)) c' (Jc c' (X.env.qual ++ "<lambda>")) y.objs.size=none:=by
   rw [zc (Wbo M),zc (Wbo (YaU n a))];exact I.hok.fresh a
  refine h y.objs.size c' ctv _ _ ⟨⟨c',G,by rw [O,w]⟩,zhG l⟩ zf a (I2.pins_of fun p i=>?_)
  rcases Ya3.mp i with i|i
  . exact I2.pin p (Yaa _ i)
  . obtain rfl:=Ya6.mp i
    exact⟨Yan _ rfl,a0,Wbo (YaU I.lt a),I.nofs a,fun v z=>by cases z⟩
 | false=>
  obtain⟨c',F,L⟩:=F;rw [<-w] at F;rw [<-O] at L;obtain⟨⟨ps,l,ht,hf⟩,_,_⟩:=I.hok P _ F;refine WU B (PySem.W.kla_makeFunctionHit (mg:=X.mg) J I.ok.glob hg j (hC.keeps I.bk) l ht hf ⟨bm,ob,b1,b2,b3,C _ _ T,I.bk _ _ T,b5⟩ fun ctv y S U a=>?_)
  have R:Inv X pins σ H { s with heap:=y.push (XN "<lambda>" (X.env.qual ++ "<lambda>") params body sc clos ((X.mg "__name__").getD .none) c' ctv),toks:=S }:=I.kept (t':=S) fun b o e=>YaW _ (U b o e)
  refine h y.objs.size c' ctv _ H rfl L a (R.pins_of fun p i=>?_)
  rcases Ya3.mp i with i|i
  . exact R.pin p (Yaa _ i)
  . obtain rfl:=Ya6.mp i
    exact⟨Yan _ rfl,I.hok.fresh a,Wbo (YaU I.lt a),I.nofs a,fun v z=>by cases z⟩
end
end L2
namespace L3
open PySem PySem.Spec PyProof.Rows L2
variable[LamW]
def BMod(mg:Str->Option Value)(base:Heap):Prop:=∃ bm o,mg "__builtins__" = some (.ref bm)/\bm≠builtinsNs/\bm≠mainGlobals/\base.get? bm=some o/\o.cls=.type "module"/\o.dict=some builtinsNs/\o.data=.plain
structure LamIn(X:Cx)(P c0 cy:Addr)(x y:Str)(it:Nat)(params:Arguments)(body:Expr)(sc:Scope):Prop where
 S:LamSc sc x y
 ne:x≠y
 ix:X.N[it]?=some y
 kd:X.env.kindOf y=some .cell
 lk:X.env.cells.lookup y=some cy
 hd:Yf X.base c0 P
 code:X.env.code=.ref c0
 bm:BMod X.mg X.base
 defs:defaultsOf params X.env=([],[])
 clos:closureFor sc X.env=pure [(y,cy)]
 bind:∀ pm cd ctv u,bindArgs (Ua "<lambda>" (X.env.qual ++ "<lambda>") params body sc [(y,cy)] pm cd ctv) ⟨[u],[]⟩=pure [(x,u)]
def spU(P:Addr)(K:Ybf)(sp:Sp3):Sp:=fun vs H Q E=>TabU P H/\spL K sp vs H Q E
structure DfU(tb:Addr)(P:Program)(w:World)(K:Ybf)(mg:Str->Option Value)(base:Heap)(k:Nat)(x:Str)(ps:List Str)(sp:Sp3):Prop where
 mono:∀ ds (Q Q':Bool->D->Prop) (E E':Addr->Prop),(∀ f d,Q f d->Q' f d)->(∀ d,E d->E' d)->sp ds Q E->sp ds Q' E'
 ok:Df P w K mg base k x ps (spU tb K sp)
theorem fnU{P:Program}{w:World}{K:Ybf}{mg:Str->Option Value}{base:Heap}{x qual:Str}{st:Stmt}{f tb:Addr}{fd:FuncData}{N ps:List Str}{k:Nat}{sp:Sp3}{cv:Value->Prop}(F:Fun K x qual st f fd)(i:cv fd.code)(S:FnScope N ps (zg st))(b:∀ ds Q E,sp ds Q E->ds.length=ps.length)
 (a:∀ (cdv:Value) (A:Around) (outer:List Env) (s:Shared) (H:Hp) (E:XK) (E3:Addr->Prop),cv cdv->TabU tb H->(∀ C H',E3 C->zh H H'->E (.ref C) none H')->Room k (A.deeper (envOfC qual (zg st) s.heap.objs.size f cdv))->
  ∃ t,PSs3 (cxOf (CXR P w) P w K mg base N qual (zg st) f cdv A outer s H E) H (jN st) t/\∀ ds Q,sp ds Q E3->t { nx:=fun _=>Q true .none,rt:=Q } (jR N ds)):FnOk P w K mg base (CXR P w) (k+1) f fd ps (spU tb K sp):=by
 refine Hd fun Y Z=>?_;obtain⟨U,T,W,m,M,R,cdv,O,L,rfl,n,c⟩:=F.ex;apply Z;refine zbB n c S (fun l H Q E h=>?_) (fun A outer s H l Q E J h=>?_)
 . obtain⟨_,G,ds,_,r,h⟩:=h
   rw [r.length];exact b _ _ _ h
 . obtain⟨u,G,ds,I,r,h⟩:=h
   obtain⟨t,p,o⟩:=a cdv A outer s H E (fun C=>∀ H',zh H H'->E _ none H') i u (fun C H' e z=>e H' z) J
   exact⟨_,p,G,_,_,G,zf4 I r,o ds _ h,⟨fun ρ σ j H' B q=>q .non j H' B.gr0 (.sc rfl .non),fun f d v j H' g y q=>q v j H' g y,fun _ _ _ _ _ q=>q.elim,fun _ _ _ _ _ q=>q.elim,fun _ _ _ _ _ _ _ _ _ q=>q.elim⟩⟩
end L3
namespace L2
open PySem PySem.Spec PyProof.Rows
section
variable{q I S:Addr}{N:Nat}
def Best(kf:Nat->Int)(n i:Nat):Prop:=∀ j,j<n->kf i<=kf j/\(j<i->kf i<kf j)
structure MinJ(prog:Program)(w:World)(A:Around)(l q:Addr)(N:Nat)(Rv:Nat->Value->Prop)(kf:Nat->Int)(I S:Addr)(J:Shared->Prop):Prop where
 list:∀ s,J s->∃ vs:List Value,vs.length=N/\s.heap.IsList l vs.toArray/\∀ i v,vs[i]?=some v->Rv i v
 own:∀ b s h' tk',J s->b=I\/b=S->(∀ c o,c≠b->s.heap.get? c=some o->h'.get? c=some o)->J { s with heap:=h',toks:=tk' }
 turn:∀ i v s,i<N->Rv i v->J s->(∃ o,s.heap.get? I=some o)->(∃ o,s.heap.get? S=some o)->
  wpAny (model prog w) A (call (.ref q) [v]) (fun x s'=>(∃ t,x=.int (kf i) t)/\J s'/\s'.heap.get? I=s.heap.get? I/\s'.heap.get? S=s.heap.get? S) (fun _ _=>False) s
theorem zm7(hh:A.handled=none)(Y:l≠I)(B:S≠I)(M:MinJ prog w A.in1 l q N Rv kf I S J)(hR:∀ i v s,i<N->Rv i v->Best kf N i->J s->R (.ok (.ret v)) s) :
 ∀ (r j i:Nat) (s:Shared) (vb:Value) (tb:Tok) (c:Nat),N - (j+1)=r->j+1<=N->J s->s.heap.get? S=some (seqObj "list" #[vb,.int (kf i) tb] c)->s.heap.IsListIter I l (j+1)->Rv i vb->i<=j->Best kf (j+1) i->
  codeAny (model prog w) A (.builtin "min.loop" ⟨[.ref I,.ref q,.ref S],[]⟩) R s:=by
 have m:(toString "min" ++ toString ".loop" : String) = "min.loop":=#[1]
 intro r
 induction r with
 | zero=>
  intro j i s vb tb c hr hj hJ L y H a6 a;have T:j+1=N:=#[0]
  obtain⟨z,E,hl,a0⟩:=M.list _ hJ;have W:=Walks.list (prog:=prog) (w:=w) (A:=A.in1) hh I l Y z.toArray;have F:z.toArray.size=z.length:=YaZ ..;refine codeAny_builtin War ?_;rw [Waz Was _];show wpAny _ A.in1 (seqItems? (.ref S) >>= _) _ _ _;refine wpAny_bind (wpAny_seqItems L rfl ?_);show wpAny _ A.in1 (tryCatch (pyNext (.ref I)) _ >>= _) _ _ _
  refine wpAny_bind (wpAny_tryCatch (W.done _ _ _ ⟨by rw [F,E,<-T];exact y,hl⟩ fun h' G g=>?_))
  have J1:=M.own I s h' G hJ (.inl rfl) fun b o n e=>g b o (by simpa using n) e
  have s1:=WaB h' S (Yd fun _=>(#[]:Array Value))
  show wpAny _ A.in1 (updateSeq S (fun _=>#[]) >>= _) _ _ _
  refine wpAny_bind ?_
  refine wpAny_updateSeq (g S _ (by simpa using B) L) rfl (wpAny_bind (wpAny_letGo (wpAny_pure ?_)))
  exact hR i vb _ #[0] H (T ▸ a) (M.own S _ _ _ J1 (.inr rfl) fun b o n e=>(s1.2 b n).trans e)
 | succ r ih=>
  intro j i s vb tb c hr hj hJ L y H a6 a;have p:j+1<N:=#[0]
  obtain⟨z,E,hl,a0⟩:=M.list _ hJ;have W:=Walks.list (prog:=prog) (w:=w) (A:=A.in1) hh I l Y z.toArray;have F:z.toArray.size=z.length:=YaZ ..;refine codeAny_builtin War ?_;rw [Waz Was _];show wpAny _ A.in1 (seqItems? (.ref S) >>= _) _ _ _;refine wpAny_bind (wpAny_seqItems L rfl ?_);show wpAny _ A.in1 (tryCatch (pyNext (.ref I)) _ >>= _) _ _ _
  refine wpAny_bind (wpAny_tryCatch (W.item (j+1) _ _ _ (by rw [F,E];exact p) ⟨y,hl⟩ fun v h' G hP a2 g=>?_))
  have hv:Rv (j+1) v:=a0 _ _ (by simpa using hP)
  obtain⟨a1,u,Z,X⟩:=id a2.1;have J1:=M.own I s h' G hJ (.inl rfl) fun b o n e=>g b o (by simpa using n) e
  have O:=g S _ (by simpa using B) L
  show wpAny _ A.in1 (tryCatch (holding [v] (call (.ref q) [v])) _ >>= _) _ _ _
  refine wpAny_bind (wpAny_tryCatch (wpAny_holding (wpAny_mono (M.turn (j+1) v _ p hv J1 ⟨_,u⟩ ⟨_,O⟩) (fun x s2 he=>?_) fun _ _ hF=>hF.elim)))
  obtain⟨⟨K,rfl⟩,J2,eI,eS⟩:=he;have a3:=eI.trans u;have C:=eS.trans O;refine wpAny_bind (wpAny_tryCatch (wpAny_holding (wpAny_bind (CmpOf.ints_lt (prog:=prog) (w:=w) (A:=A.in1) (P:=fun i v=>∃ t,v=.int (kf i) t) kf (fun i v h=>h) (j+1) i _ _ _ _ _ ⟨K,rfl⟩ ⟨tb,rfl⟩ ?_))))
  refine wpAny_bind (wpAny_holding (wpAny_truthy_bool ?_))
  refine wpAny_bind (wpAny_letGo (wpAny_pure ?_))
  by_cases U:kf (j+1)<kf i
  . have s1:=WaB s2.heap S (Yd fun _=>#[v,.int (kf (j+1)) K])
    obtain⟨c2,a4⟩:∃ c2,(s2.heap.update S (Yd fun _=>#[v,.int (kf (j+1)) K])).get? S=some (seqObj "list" #[v,.int (kf (j+1)) K] c2):=⟨_,get?_update_seq C fun _=>#[v,.int (kf (j+1)) K]⟩
    simp only [U,decide_true,if_true];refine wpAny_bind ?_;refine wpAny_updateSeq C rfl (wpAny_bind (wpAny_letGo ?_));rw [m];refine wpAny_pure ⟨plainId_quiet Was _,ih (j+1) (j+1) _ v K c2 #[0] p (M.own S _ _ _ J2 (.inr rfl) fun b o n e=>(s1.2 b n).trans e) a4 ⟨a1,(s1.2 I B.symm).trans a3,Z,X⟩ hv (YaY _) fun Q a5=>?_⟩
    by_cases e:Q=j+1
    . subst e
      exact⟨#[0],fun _=>by omega⟩
    . have a7:=(a Q #[0]).1
      exact⟨#[0],fun _=>by omega⟩
  . simp only [U,decide_false,WaF,if_false]
    refine wpAny_bind (wpAny_letGo ?_)
    rw [m];refine wpAny_pure ⟨plainId_quiet Was _,ih (j+1) i _ vb tb c #[0] p J2 C ⟨a1,a3,Z,X⟩ H #[0] fun Q a5=>?_⟩
    by_cases e:Q=j+1
    . subst e
      exact⟨#[0],fun _=>by omega⟩
    . exact a Q #[0]
theorem zh6{s:Shared}{kf:Nat->Int}{J:Addr->Addr->Shared->Prop}(hh:A.handled=none){vs0:List Value}(F:s.heap.IsList l vs0.toArray)(p:0<N)
 (M:∀ I S,s.heap.objs.size<=I->I<S->MinJ prog w A.in1 l q N Rv kf I S (J I S))
 (h0:∀ I S h',(∀ b o,s.heap.get? b=some o->h'.get? b=some o)->s.heap.objs.size<=I->I<S->J I S { s with heap:=h' })
 (hQ:∀ I S i v s',i<N->Rv i v->Best kf N i->J I S s'->Q v s') :
 wpAny (model prog w) A (call (.builtin "min") [.ref l] [(Yi "key", .ref q)]) Q E s:=by
 have g:(toString "min" ++ toString ".loop" : String) = "min.loop":=#[1]
 obtain⟨ol,K,_⟩:=id F;have z:l≠s.heap.objs.size:=Yaf (YaX K);refine kmk_tree WV WF WG (kmk_min_key _ _) ?_;refine wpAny_bind (wpAny_of_eq (rfl) ?_);refine wpAny_bind (wpAny_pure ?_);refine wpAny_bind (wpAny_pyIter_list F ?_);refine wpAny_bind (wpAny_newList ?_ (Wby _));rw [g];have G:(s.heap.push { cls:=.type "list_iterator", data:=.fields #[.ref l,.int 0 0] }).objs.size=s.heap.objs.size+1:=size_push' ..
 have m:(s.heap.push { cls:=.type "list_iterator", data:=.fields #[.ref l,.int 0 0] }).objs.size≠s.heap.objs.size:=by rw [G];exact Wbo (WaV _)
 refine wpAny_pure ⟨plainId_quiet Was _,?_⟩
 have M:=M s.heap.objs.size (s.heap.push { cls:=.type "list_iterator", data:=.fields #[.ref l,.int 0 0] }).objs.size (YaY _) (by rw [G];exact WaV _)
 have J0:=h0 s.heap.objs.size (s.heap.push { cls:=.type "list_iterator", data:=.fields #[.ref l,.int 0 0] }).objs.size ((s.heap.push { cls:=.type "list_iterator", data:=.fields #[.ref l,.int 0 0] }).push (seqObj "list" #[] 0)) (fun b x e=>YaW _ (YaW _ e)) (YaY _) (by rw [G];exact WaV _)
 have gI:((s.heap.push { cls:=.type "list_iterator", data:=.fields #[.ref l,.int 0 0] }).push (seqObj "list" #[] 0)).get? s.heap.objs.size=some { cls:=.type "list_iterator", data:=.fields #[.ref l,.int 0 0] }:=
  YaW _ (Yan _ rfl)
 have gS:((s.heap.push { cls:=.type "list_iterator", data:=.fields #[.ref l,.int 0 0] }).push (seqObj "list" #[] 0)).get? (s.heap.push { cls:=.type "list_iterator", data:=.fields #[.ref l,.int 0 0] }).objs.size=some (seqObj "list" #[] 0):=Yan _ rfl;generalize (s.heap.push { cls:=.type "list_iterator", data:=.fields #[.ref l,.int 0 0] }).objs.size=S at *;generalize hI:s.heap.objs.size=I at *
 obtain⟨H,T,F,R⟩:=M.list _ J0;have W:=Walks.list (prog:=prog) (w:=w) (A:=A.in1) hh I l z H.toArray;have U:H.toArray.size=H.length:=YaZ ..;refine codeAny_builtin War ?_;rw [Waz Was _];show wpAny _ A.in1 (seqItems? (.ref S) >>= _) _ _ _;refine wpAny_bind (wpAny_seqItems gS rfl ?_);refine wpAny_bind (wpAny_tryCatch (W.item 0 _ _ _ (by rw [U,T];exact p) ⟨⟨_,gI,rfl,rfl⟩,F⟩ fun v h' Y hP C y=>?_))
 have hv:Rv 0 v:=R _ _ (by simpa using hP)
 obtain⟨Z,j,P,O⟩:=id C.1;have J1:=M.own I _ h' Y J0 (.inl rfl) fun b o n e=>y b o (by simpa using n) e
 have r:=y S _ (by simpa using m) gS
 refine wpAny_bind (wpAny_tryCatch (wpAny_holding (wpAny_mono (M.turn 0 v _ p hv J1 ⟨_,j⟩ ⟨_,r⟩) (fun x s2 he=>?_) fun _ _ hF=>hF.elim)))
 obtain⟨⟨B,rfl⟩,J2,eI,eS⟩:=he;have a0:=eI.trans j;have u:=eS.trans r;have s1:=WaB s2.heap S (Yd fun _=>#[v,.int (kf 0) B])
 obtain⟨X,L⟩:∃ X,(s2.heap.update S (Yd fun _=>#[v,.int (kf 0) B])).get? S=some (seqObj "list" #[v,.int (kf 0) B] X):=⟨_,get?_update_seq u fun _=>#[v,.int (kf 0) B]⟩
 refine wpAny_bind ?_
 refine wpAny_updateSeq u rfl ?_
 rw [g];refine wpAny_pure ⟨plainId_quiet Was _,zm7 hh z m M (fun i v s' a b c d=>hQ I S i v s' a b c d) _ 0 0 _ v B X rfl p (M.own S _ _ _ J2 (.inr rfl) fun b o n e=>(s1.2 b n).trans e) L ⟨Z,(s1.2 _ m.symm).trans a0,P,O⟩ hv (YaY _) fun j' a1=>?_⟩
 have e:j'=0:=#[0]
 subst e;exact⟨#[0],fun h=>absurd h (Yap _)⟩
end
end L2
namespace L3
open PySem PySem.Spec PyProof.Rows L2
variable[LamW]
def rMin(P:Addr)(it:Nat)(tb:TE)(σ : L2.St)(Q:VK):V->Hp->Prop:=fun v H1=>TabU P H1/\∃ (l:Addr) (ns:List Int) (tv:V) (g:Int->Int),v=.ref l/\H1 l=some (.lst (ns.map .int))/\0<ns.length/\σ[it]?=some (some tv)/\
 (∀ n∈ns,∀ H2,zh H1 H2->tb [some (.int n),some tv] H2 fun v' H'=>v'=.int (g n)/\zh H2 H')/\∀ n H2,n∈ns->(∀ m∈ns,g n<=g m)->zh H1 H2->Q (.int n) H2
def zlu(P:Addr)(it:Nat)(tl tb:TE):TE:=fun σ H Q=>tl σ H (rMin P it tb σ Q)
def one1(r:V->Hp->Prop):List V->Hp->Prop:=fun vs H=>match vs with
 | [v]=>r v H
 | _=>False
section
variable{P cy:Addr}{x:Str}{it k:Nat}{sc:Scope}{tb:TE}{lp:Pos}
theorem ziz(aa:lp=LamW.pos)(hqn:X.env.qual ++ "<lambda>" = LamW.q)(L:LamIn X P c0 cy x y it params body sc)(hr:Room (k+2) X.A)(hl:PE X (.ListComp elt gens csc cp) tl)
 (K:∀ f cd' s H',Room k (zaT X [x,y] (X.env.qual ++ "<lambda>") sc f cd' [(y,cy)] X.A.in1 s H').A->PE (zaT X [x,y] (X.env.qual ++ "<lambda>") sc f cd' [(y,cy)] X.A.in1 s H') body tb)
 (hg:Gl X "min") (hm:X.mg "min" = none):PE X (.Call (.Name "min" np) [.ListComp elt gens csc cp] [⟨some "key", .Lambda params body sc lp,kp⟩] cpos) (zlu P it tl tb):=by
 intro pins s σ H Q I hyp;refine wpAny_Call_Name_kw (Js I hg hm (show bootBuiltins "min" = some (.builtin "min") by rfl) ?_)
 refine callWith_kw ?_
 refine thn ((zn hl zJ) cpos pins s σ H (one1 (rMin P it tb σ Q)) I hyp) fun us s1 h1=>?_
 obtain⟨vs,H1,I1,rv,e1⟩:=h1
 match vs,rv,e1 with
 | [],_,e1=>exact e1.elim
 | _::_::_,_,e1=>exact e1.elim
 | [v],rv,e1=>
 have e1:rMin P it tb σ Q v H1:=e1;refine Hd fun G O=>?_;obtain⟨tu,l,ns,tv,g,rfl,hl1,hne,htσ,a2,cont⟩:=e1;apply O;obtain rfl:us=[.ref l]:=by
  cases rv with
  | cons a b=>cases b;cases a;rfl
 obtain⟨b,ae⟩:∃ b,TabS b P H1:=tu.elim (fun h=>⟨true,h⟩) fun h=>⟨false,h⟩
 refine wpAny_evalAll_cons (wpAny_bind (zh4 I1 aa hqn ae L.hd L.code L.bm L.defs L.clos fun fa c' ctv s2 HM mv hcH hf I2=>wpAny_bind (wpAny_standAt (wpAny_pure (wpAny_evalAll_nil ?_)))))
 show wpAny _ _ (call (.builtin "min") [.ref l] [(Yi "key", .ref fa)]) _ _ s2
 have mx:zh H1 HM:=MvS.x ae mv;have hlM:HM l=some (.lst (ns.map .int)):=mx.at hl1;obtain⟨its,rV,hpl,hz⟩:=I2.list (SqL.of hlM);have hl2:its.length=ns.length:=by rw [<-rV.length,YaR]
 have nw:∀ b:Addr,s2.heap.objs.size<=b->X.s₀.heap.objs.size<=b/\b≠X.env.locals/\(∀ z c,X.env.cells.lookup z=some c->c≠b)/\(∀ p∈X.pn++(pins++[(fa,XN "<lambda>" (X.env.qual ++ "<lambda>") params body sc [(y,cy)] ((X.mg "__name__").getD .none) c' ctv)]),p.1≠b)/\b∉frs X.stack:=fun b K=>by
  refine⟨Ya5 I2.sz K,Wbo (YaU I2.lt K),fun z c e=>?_,fun p hp=>?_,fun z=>?_⟩
  . obtain⟨v,o,ho,_⟩:=I2.cell z c e
    exact Yaf (YaU (YaX ho) K)
  . exact Yaf (YaU (YaX (I2.pin p hp).1) K)
  . rcases Wbe.mp (I2.stkSub b z) with q|q
    . exact Wbo (YaU I2.lt K) q
    . exact I2.nofs K q
 have lst:∀ {H':Hp} {s':Shared} {pl:List (Addr×Obj)},Inv X pl σ H' s'->zh HM H'->∃ vs:List Value,vs.length=ns.length/\s'.heap.IsList l vs.toArray/\∀ i v,vs[i]?=some v->RelV (.int (ns.getD i 0)) v:=fun I' C=>by
  obtain⟨S,rV',hpl',_⟩:=I'.list (SqL.of (C.at hlM));have hl3:S.length=ns.length:=by rw [<-rV'.length,YaR]
  refine⟨S,hl3,hpl'.isList,fun i v hv=>?_⟩
  have hi:i<ns.length:=by rw [<-hl3];exact(Ya8.mp hv).1
  obtain⟨u,hu,ru⟩:=rV'.get (i:=i) (x:=.int ns[i]) (by rw [Ya0,YaQ hi];rfl)
  rw [hv] at hu;cases hu;rw [YaP,YaQ hi];exact ru
 refine zh6 (N:=ns.length) (Rv:=fun i v=>RelV (.int (ns.getD i 0)) v) (q:=fa) (kf:=fun i=>g (ns.getD i 0))
  (J:=fun D kS s'=>∃ H',Inv X (pins++[(fa,XN "<lambda>" (X.env.qual ++ "<lambda>") params body sc [(y,cy)] ((X.mg "__name__").getD .none) c' ctv)]) σ H' s'/\zh HM H'/\H' D=none/\H' kS=none)
  hr.hd hpl.isList hne (fun D kS hD hlt=>?_) (fun D kS h' hk hD hlt=>?_) (fun D kS i v s' hi ru Y hJ=>?_)
 . have hkS:s2.heap.objs.size<=kS:=Ya5 hD (Wbn hlt)
   refine⟨fun s' zz0 => by obtain ⟨H',I',C,_⟩ := zz0; exact lst I' C,fun b s' h' tk' hJ K sb=>?_,fun i v s' hi ru hJ hoD hoK=>?_⟩
   . obtain⟨H',I',C,n1,n2⟩:=hJ
     have hbb:H' b=none/\s2.heap.objs.size<=b:=by
      rcases K with rfl|rfl
      . exact⟨n1,hD⟩
      . exact⟨n2,hkS⟩
     obtain⟨w1,w2,w3,w4,_⟩:=nw b hbb.2;exact⟨H',I'.turned (t':=tk') (fun c o ne e=>sb c o ne e) hbb.1 w2 (.inr w1) w3 w4,C,n1,n2⟩
   . obtain⟨H',I',C,n1,n2⟩:=hJ
     obtain⟨oD,eD⟩:=hoD;obtain⟨oK,eK⟩:=hoK;have hnm:ns.getD i 0∈ns:=by rw [YaP,YaQ hi];exact Ya4 hi
     have ru:RelV (.int (ns.getD i 0)) v:=ru;obtain⟨m,az,a6⟩:=id I'.loc;obtain⟨tu,rt,lk⟩:=a6 it y tv L.ix htσ (.inr (.inl L.kd));have hcell:s'.heap.IsCell cy (some tu):=by
      rcases lk with ⟨z,_⟩|⟨_,c,hc,z⟩
      . rw [L.kd] at z;cases z
      . rw [L.lk] at hc;cases hc;exact z
     have hfo:=(I'.pin (fa,XN "<lambda>" (X.env.qual ++ "<lambda>") params body sc [(y,cy)] ((X.mg "__name__").getD .none) c' ctv) (by simp)).1
     have ai:s'.heap.CodeRec (.ref c') (X.env.qual ++ "<lambda>"):=(I'.hok c' _ (C.code hcH)).1;have hrm:Room (k+1) X.A.in1:=hr.in1;have pb:=K fa (.ref c') s' H' (hrm.deeper _);refine wpAny_mono (zhA (A:=X.A.in1) L.S L.ne I' I'.ok.frames hrm.hd hrm.depth ru rt hcell (I'.freeC y cy L.lk) hfo ai (L.bind _ _ _ _) pb (a2 _ hnm H' (mx.trans C))) (fun r s'' hr'=>?_) fun _ _ z=>z
     refine Hd fun G O=>?_;obtain⟨v',am,aq,un,av,rfl,hS⟩:=hr';apply O;obtain⟨t,rfl⟩:=av;exact⟨⟨t,rfl⟩,⟨am,aq,C.trans hS,un.free D oD eD n1 (by simp),un.free kS oK eK n2 (by simp)⟩,(un.keep D oD eD n1 (nw D hD).2.2.2.2 (by simp)).trans eD.symm,(un.keep kS oK eK n2 (nw kS hkS).2.2.2.2 (by simp)).trans eK.symm⟩
 . exact⟨_,I2.kept (t':=s2.toks) hk,zh.refl _,I2.hok.fresh hD,I2.hok.fresh (Ya5 hD (Wbn hlt))⟩
 . obtain⟨H',I',C,n1,n2⟩:=hJ
   have hnm:ns.getD i 0∈ns:=by rw [YaP,YaQ hi];exact Ya4 hi
   refine⟨.int (ns.getD i 0),H',I'.unpinned,ru,cont _ H' hnm (fun m hm=>?_) (mx.trans C)⟩
   obtain⟨j,hj,rfl⟩:=List.mem_iff_getElem.mp hm;have:g (ns.getD i 0)<=g (ns.getD j 0):=(Y j hj).1;rwa [show ns.getD j 0=ns[j] by rw [YaP,YaQ hj];rfl] at this
end
variable[LamW]
section
variable{k:Nat}{x:Str}{ps:List Str}{t:TA3}{es:List Expr}{p:Pos}
theorem dfU{E:XK}{E3:Addr->Prop}(S:TabU tb H0)(M:∀ C H',E3 C->zh H0 H'->E (.ref C) none H')(j:DfU tb X.prog X.w X.K X.mg X.base k x ps sp)(T:Room k X.A)(O:Gl X x)(N:Passes (CXR X.prog X.w) X E)(m:PA3 X H0 (e::es) t)(n:(x==("__debug__" : Str))=false:=by decide)
 (L:starEach (e::es) X.env=(false,eval e X.env)::starEach es X.env:=by rfl) (l:(backTo pos (starEach es X.env)).any (·.1)=false:=by rfl):PE3 X H0 (.Call (.Name x p) (e::es) [] pos) (Za sp E3 t):=by
 refine⟨fun ρ Q Y h q=>m.mono ρ _ _ (fun A ⟨o,q⟩=>⟨o,j.mono _ _ _ _ _ (fun f d ⟨a,b⟩=>⟨a,h _ b⟩) (fun _ z=>z) q⟩) q,PE.imp (jy j.ok T O N m.ok n L l) fun σ H Q=>el5 fun R ρ G F q=>⟨R,ρ,G,F,m.mono ρ _ _ (fun A ⟨o,u⟩ U B y i w=>?_) q⟩⟩
 show spU tb X.K sp _ y Q E
 rw [Yao];refine⟨S.same (F.gr i).keep,?_⟩;have J:=fun C c H' s=>M C H' c ((F.gr i).keep.trans s)
 cases hs:shs A with
 | some W=>
  refine⟨B,_,i.sub,by rw [zcr hs];exact(w.shs hs).rd,j.mono _ _ _ _ _ (fun f d ⟨_,k⟩ v K H' g r=>k v K H' (i.trans g) (.sh ⟨r.rd,fun P=>jV (Same.refl _) (fun _ _ _ z=>(F.gr i).keep.free z) (r.nw P)⟩)) J u⟩
 | none=>
  refine⟨_,_,zgP y,rdvs_cln (w.rds i.sub o),j.mono _ _ _ _ _ (fun f d ⟨s,k⟩ v K H' g r=>?_) J u⟩
  have I:=s.resolve_left (by grind)
  exact k v B H' (i.trans ⟨Same.refl _,g.h,i.sub.trans g.h,fun _ _ e=>.inl e⟩) (.sh (.sc I (zgI I r.rd)))
end
theorem zjb{p:Program}(T:Top p loose mean mg mb h):BMod mg h:=by
 obtain⟨j,m,a,b,i,g,l,c⟩:=T.bmain;refine⟨j,m,a,b,fun q=>?_,i,g,l,c⟩
 obtain⟨o,n,s,e,r,_⟩:=T.g
 grind
theorem zlJ{vs:Array Value}(a:Xu K mainGlobals x=some (some (.ref f)))(l:K.lookup f=some ⟨oc,od,.func fd,sl⟩)(c:fd.code=.ref c0)
 (b:K.lookup c0=some ⟨oc',od',.fields vs,sl'⟩) (e:vs[11]?=some (.ref tb)):Y5 K x=some (c0,tb):=by
 unfold Y5
 simp_all
theorem zjj{P:Program}{w:World}{K:Ybf}{mg mb:Str->Option Value}{k:Nat}{fa a c0 tb:Addr}{fd:FuncData}{x:Str}{sp:Sp3}{s₁ : Shared}{vs:List Value}{ns:List Int}
 (KX:K.In s₁.heap) (a3:s₁.heap.Ns mainGlobals mg) (i:s₁.heap.Ns builtinsNs mb) (a9:∀ x:Str,x≠"__name__"->mb x=bootBuiltins x) (a0:s₁.heap.NoLimit) (hg:s₁.gens = #[])
 (G:s₁.heap.get? a=some { cls:=.type "list", data:=.seq vs.toArray }) (hi:IntsAre vs ns) (hl:ns.length<=sizeLine) (hr:Room k callerA)
 (C:s₁.heap.get? tb=some (Ye #[])) (a8:Yf s₁.heap c0 tb) (a5:BMod mg s₁.heap) (a1:K.lookup tb=none)
 (F:∀ base:Heap,K.In base->BMod mg base->FnOk P w K mg base (CXR P w) k fa fd [x] (spU tb K sp)) (I:∀ (s:Shared) (u:Value),BindsTo s fd ⟨[u],[]⟩ [(x,u)])
 (a2:∀ (Q:Bool->D->Prop) (E:Addr->Prop),(∀ f,Q f (.bool true))->sp [.list (ns.map .int)] Q E) :
 codeAny (model P w) callerA (.call (.ref fa) ⟨[.ref a],[]⟩) (fun r s'=>r=.ok (.ret (.bool true))/\OldK s₁.heap s'.heap/\s'.os=s₁.os/\AllBare s'.gens) s₁:=by
 have rv:=zdM hi;have N:=hi.length;have L:a≠tb:=fun e=>by rw [e,C] at G;cases G
 have B:∀ H:Hp,SqL K H a (ns.map V.int)->HOk P w H s₁.heap->(∀ b o,H b=some o->(b=tb/\o=tab0 tb)\/(b=a/\K.lookup a=none/\∃ ob S,o=.frz ob (.lst S)))->H tb=some (tab0 tb)->
  codeAny (model P w) callerA (.call (.ref fa) ⟨[.ref a],[]⟩) (fun r s'=>r=.ok (.ret (.bool true))/\OldK s₁.heap s'.heap/\s'.os=s₁.os/\AllBare s'.gens) s₁:=by
  intro H hS T R hT;have a4:∀ {b:Addr} {o:Obj},s₁.heap.get? b=some o->(∀ S n,o.data≠.seq S n)->o.cls≠.none->H b=none:=fun {b o} e d c=>by
   cases q:H b with
   | none=>rfl
   | some u=>
    rcases R b u q with ⟨rfl,_⟩|⟨rfl,_⟩
    . rw [C] at e;cases e;exact absurd rfl c
    . rw [G] at e;cases e;exact absurd rfl (d _ _)
  have a7:∀ {b:Addr} {o:Obj} {es:Array DictEntry} {A:Nat},s₁.heap.get? b=some o->o.data=.dict es A->H b=none:=fun {b o es A} e d=>by
   cases q:H b with
   | none=>rfl
   | some u=>
    rcases R b u q with ⟨rfl,_⟩|⟨rfl,_⟩
    . rw [C] at e;cases e;cases d
    . rw [G] at e;cases e;cases d
  have j:∀ {b:Addr} {o:Obj},s₁.heap.get? b=some o->H b=none->(hidT s₁.heap H).get? b=some o:=fun e n=>zmN e n
  have J:∀ {b:Addr} {m:Str->Option Value},s₁.heap.Ns b m->(hidT s₁.heap H).Ns b m:=fun {b m} zz0 => by obtain ⟨o,es,A,e,d,r⟩ := zz0; exact ⟨o,es,A,j e (a7 e d),d,r⟩
  have Z:K.In (hidT s₁.heap H):=fun b o e=>j (KX b o e) (by
   cases q:H b with
   | none=>rfl
   | some u=>
    rcases R b u q with ⟨rfl,_⟩|⟨rfl,M,_⟩
    . rw [a1] at e;cases e
    . rw [M] at e;cases e)
  have hM:Mod K mg (hidT s₁.heap H):=⟨Z,J a3,⟨mb,J i,a9⟩,let ⟨mc,h1,M⟩:=a0;⟨mc,J h1,M⟩⟩;have hB:BMod mg (hidT s₁.heap H):=by
   obtain⟨bm,o,h1,M,h3,h4,h5,h6,h7⟩:=a5;exact⟨bm,o,h1,M,h3,j h4 (a4 h4 (fun S n z=>by rw [h7] at z;cases z) (by rw [h5];nofun)),h5,h6,h7⟩
  have e0:Env0 P w K mg (hidT s₁.heap H) callerA [] s₁ H:=⟨rfl,hM,fun b o e=>znk e,Uo (zh0 _ _),trivial,fun b i=>absurd (show b∈([]:List Addr) from i) (by simp),T,.of_eq hg⟩
  have O:Same (fun b=>if b=tb then none else H b) H:=fun b o e=>by
   by_cases i:b=tb
   . have e:(if b=tb then none else H b)=some o:=e
     rw [if_pos i] at e;cases e
   . have e:(if b=tb then none else H b)=some o:=e
     rw [if_neg i] at e;exact e
  have sG:Sub (fun b=>if b=tb then none else H b) H:=⟨O,fun b f e=>by
   rcases R b _ (O b _ e) with ⟨z,_⟩|⟨_,_,_,_,z⟩
   . rw [if_pos z] at e;cases e
   . cases z⟩
  have aa:SqL K (fun b=>if b=tb then none else H b) a (ns.map V.int):=by
   rcases hS with (h|⟨o,h⟩)|h
   . exact .inl (.inl ((if_neg L).trans h))
   . exact .inl (.inr ⟨o,(if_neg L).trans h⟩)
   . exact .inr h
  refine codeAny_mono ((F _ Z hB).run callerA [] s₁ H ⟨[.ref a],[]⟩ [.ref a] [.ref a] (fun v H'=>v=.bl true/\TabU tb H') (fun _ _ _=>False) hr e0 (I s₁ (.ref a)) (.cons rfl .nil) ⟨.inl hT,fun b=>if b=tb then none else H b,[.list (ns.map .int)],sG,.cons (.lst aa (zdd ns)) .nil,a2 _ _ fun f v G' H' g r=>⟨zeB r.rd,(show TabU tb H from .inl hT).same g.h⟩⟩) fun r s' h=>?rs
  cases r with
  | error e=>
   obtain⟨_,_,_,_,_,hf⟩:=h;exact hf.elim
  | ok fl=>
   cases fl with
   | next=>exact Xj h
   | brk=>exact Xj h
   | cont=>exact Xj h
   | ret u=>
    obtain⟨v,H',os,Y,un,p,r',q⟩:=h;obtain⟨q',a6⟩:v=.bl true/\TabU tb H':=q;subst q';obtain rfl:u=UC true:=r';have y:=fun b o i e=>by
     cases q:H b with
     | none=>exact un.keep b o e q (by intro z;exact absurd (show b∈([]:List Addr) from z) (by simp)) (by simp)
     | some u=>
      rcases R b u q with ⟨z,_⟩|⟨_,_,ob,S,z⟩
      . exact absurd z i
      . rw [z] at q
        have z2:=un.frzs b ob _ q;obtain⟨e1,_⟩:=T b _ q;obtain⟨e2,_⟩:=p b _ z2;rw [e] at e1;cases e1;exact e2
    obtain⟨X,A⟩:∃ X,s'.heap.get? tb=some (Ye X):=by
     rcases a6 with z|⟨c',z,_⟩
     . exact⟨#[],(p tb _ z).1⟩
     . obtain⟨⟨X,A,_⟩,_,_⟩:=p tb _ z
       exact⟨X,A⟩
    refine⟨rfl,⟨fun b o e=>?_,fun b o e=>?_⟩,os,Y⟩
    . by_cases i:b=tb
      . subst i
        rw [C] at e;cases e;exact .inr (.inl ⟨(a8.tab C).isCodeTable,rfl,#[],X,rfl,by rw [A];simp⟩)
      . exact .inl (y b o i e)
    . by_cases i:b=tb
      . subst i;exact⟨_,A⟩
      . exact⟨o,y b o i e⟩
 have W:∀ (H:Hp),zQ P w H s₁.heap tb (tab0 tb):=fun H=>⟨C,⟨_,C⟩,fun h1 M e k=>k _ e⟩
 cases hk:K.lookup a with
 | some o=>
  have e:=KX a o hk;rw [G] at e;cases e;refine B (fun b=>if b=tb then some (tab0 tb) else none) (.inr ⟨_,vs.toArray,_,hk,rfl,rfl,rfl,by rw [YaZ,N];exact hl,by simpa using rv⟩) (fun b u z=>?_) (fun b o z=>?_) (if_pos rfl)
  . by_cases i:b=tb
    . have l:=(if_pos i).symm.trans z
      cases l;subst i
      exact W _
    . have l:=(if_neg i).symm.trans z
      cases l
  . by_cases i:b=tb
    . have l:=(if_pos i).symm.trans z
      cases l;exact .inl ⟨i,rfl⟩
    . have l:=(if_neg i).symm.trans z
      cases l
 | none=>
  refine B (fun b=>if b=tb then some (tab0 tb) else if b=a then some (.frz { cls:=.type "list", data:=.seq vs.toArray } (.lst (ns.map V.int))) else none) (.inl (.inr ⟨{ cls:=.type "list", data:=.seq vs.toArray },(if_neg L).trans (if_pos rfl)⟩)) (fun b u z=>?_) (fun b o z=>?_) (if_pos rfl)
  . by_cases i:b=tb
    . have l:=(if_pos i).symm.trans z
      cases l;subst i
      exact W _
    . have U:=(if_neg i).symm.trans z
      by_cases i:b=a
      . have l:=(if_pos i).symm.trans U
        cases l;subst i
        exact⟨G,by rw [YaR];exact hl,vs,_,rv,G⟩
      . have l:=(if_neg i).symm.trans U
        cases l
  . by_cases i:b=tb
    . have l:=(if_pos i).symm.trans z
      cases l;exact .inl ⟨i,rfl⟩
    . have U:=(if_neg i).symm.trans z
      by_cases i:b=a
      . have l:=(if_pos i).symm.trans U
        cases l;exact .inr ⟨i,hk,_,_,rfl⟩
      . have l:=(if_neg i).symm.trans U
        cases l
theorem zkV{l:W6}{n k:Nat}{q:Program}{loose:List Str}{XP:(Str->Option Value)->Heap->Prop}{YP:World->Heap->Prop}{d dd:DefRec}{K:Params->Ybf}{sp:Sp3}{x dn:Str}
 (M:l.most=some n) (r:n<=sizeLine) (v:d.params.defaults=[]) (R:Room k callerA) (I:∀ (w:World) (h:Heap),YP w h->(K w.params).In h) (g:(recsOf q).find? (fun e=>e.name==dn)=some dd)
 (F:∀ (w:World) (mg:Str->Option Value) (fa:Addr) (h:Heap),(K w.params).In h->h.Ns mainGlobals mg->mg d.name=some (.ref fa)->
  ∃ (fd:FuncData) (c0 tb:Addr),(∀ (s:Shared) (u:Value),BindsTo s fd ⟨[u],[]⟩ [(x,u)])/\Y5 (K w.params) dn=some (c0,tb)/\(K w.params).lookup tb=none/\
   ∀ base:Heap,(K w.params).In base->BMod mg base->FnOk l.prog w (K w.params) mg base (CXR l.prog w) k fa fd [x] (spU tb (K w.params) sp))
 (p:∀ (ns:List Int),ns.length<=n->∀ (Q:Bool->D->Prop) (E:Addr->Prop),(∀ f,Q f (.bool true))->sp [.list (ns.map .int)] Q E) :
 Ul q loose XP YP l.row.toRowW d [] (fun f vs=>Uf f vs):=by
 refine Att.attach_call M v fun w B A mg W fa o T U L a vs ns G Y S X C y i c b H=>?_
 have z:=I w _ Y;refine Hd fun Z V=>?_;obtain⟨fd,c0,tb,J,j,m,P⟩:=F w mg fa _ z G.T.g y;apply V;obtain⟨O,N⟩:=PySem.W.tab_of G.T z g j;exact zjj z G.T.g G.T.b G.T.builtins G.T.nolimit H i c (Ya5 b r) R N O (zjb G.T) m P J (p ns b)
end L3
namespace L2
open PySem PySem.Spec PyProof.Rows
section
variable{I S:Addr}{wr:List Addr}{St:Nat->Heap->Prop}{bt:Nat->Nat->Bool}{kw:List (Str×Value)}
theorem zcm:(toString "min" ++ toString ".loop" : String) = "min.loop":=#[1]
theorem zkC(W:Walks prog w A.in1 I fp wr n Rv St)(G:CmpOf prog w A.in1 .Lt Rv bt)(N:S∉fp):∀ (r j:Nat) (s:Shared) (b:Value) (m:Nat),n - (j+1)=r->j<n->St (j+1) s.heap->Rv (argBest bt j) b->s.heap.get? S=some (seqObj "list" #[b,b] m)->
 (∀ v h tk,Rv (argBest bt (n - 1)) v->(∀ a o,a∉wr->a≠S->s.heap.get? a=some o->h.get? a=some o)->R (.ok (.ret v)) { s with heap:=h,toks:=tk })->codeAny (model prog w) A (.builtin "min.loop" ⟨[.ref I,.none,.ref S],kw⟩) R s:=by
 have L:S∉wr:=fun z=>N (W.sub _ z)
 intro r
 induction r with
 | zero=>
  intro j s b m e T F B q y;have M:j+1=n:=#[0]
  refine codeAny_builtin War ?_
  rw [Waz Was _];refine wpAny_bind (m:=seqItems? (.ref S)) (wpAny_seqItems q rfl ?_);refine wpAny_bind (wpAny_tryCatch (m:=pyNext (.ref I)) (W.done s _ _ (M ▸ F) fun h tk l=>?_))
  refine wpAny_bind (m:=updateSeq S fun _=>#[]) (wpAny_updateSeq (l S _ L q) rfl (wpAny_bind (wpAny_letGo (wpAny_pure ?_))))
  exact y b _ tk (by rw [<-M];exact B) fun a o i p x=>(Wan _ _ (WbA p)).trans (l a o i x)
 | succ r O=>
  intro j s b m e T F B q y;have H:j+1<n:=#[0]
  refine codeAny_builtin War ?_
  rw [Waz Was _];refine wpAny_bind (m:=seqItems? (.ref S)) (wpAny_seqItems q rfl ?_);refine wpAny_bind (wpAny_tryCatch (m:=pyNext (.ref I)) (W.item (j+1) s _ _ H F fun v h tk P u l=>?_))
  have g:=l S _ L q;show wpAny _ _ (tryCatch (holding [v,v] (richCompare .Lt v b >>= _)) _ >>= _) _ _ _;refine wpAny_bind (wpAny_tryCatch (wpAny_holding (wpAny_bind (G (j+1) (argBest bt j) v b _ _ _ P B ?_))));refine wpAny_bind (wpAny_holding (wpAny_truthy_bool (wpAny_bind (wpAny_letGo (wpAny_pure ?_)))));cases hb:bt (j+1) (argBest bt j) with
  | true=>
   refine wpAny_bind (m:=updateSeq S fun _=>#[v,v]) (wpAny_updateSeq g rfl (wpAny_bind (wpAny_letGo ?_)))
   rw [zcm];refine wpAny_pure ⟨plainId_quiet Was _,O (j+1) _ v _ #[0] H (W.frame _ _ _ u fun a Q o x=>?_) (by simp only [argBest,hb,if_true];exact P) (Wat _ g rfl) fun K J c E C=>y K J c E fun a o i p x=>C a o i p ((Wan _ _ (WbA p)).trans (l a o i x))⟩
   exact(Wan _ _ (fun z:S=a=>N (by rw [z];exact Q))).trans x
  | false=>
   refine wpAny_bind (wpAny_letGo ?_)
   rw [zcm];exact wpAny_pure ⟨plainId_quiet Was _,O (j+1) _ b m #[0] H u (by simp only [argBest,hb,WaF,if_false];exact B) g fun K J c E C=>y K J c E fun a o i p x=>C a o i p (l a o i x)⟩
theorem znI(a v):argsOk "min" ⟨[a],[(Yi "default", v)]⟩:=by unfold argsOk;kernel_rfl
theorem ziN{l:Addr}{xs:Array Value}{s:Shared}{Q:Value->Shared->Prop}{E:Value->Shared->Prop}(N:A.handled=none)(G:s.heap.IsList l xs)(u:CmpOf prog w A.in1 .Lt (fun i v=>xs[i]?=some v) bt)
 (F:∀ v h tk,(if xs.size=0 then v=.none else xs[argBest bt (xs.size - 1)]?=some v)->(∀ a o,s.heap.get? a=some o->h.get? a=some o)->Q v { s with heap:=h,toks:=tk }) :
 wpAny (model prog w) A (call (.builtin "min") [.ref l] [(Yi "default", .none)]) Q E s:=by
 obtain⟨J,b,L⟩:=id G;refine kmk_tree WV WF WG (znI _ _) ?_;refine wpAny_bind (m:=Builtin.Builtins.bindParams "min" ["key", "default"] 0 ⟨[],[(Yi "default", .none)]⟩) (wpAny_of_eq (show _=pure [none,some .none] from rfl) (wpAny_bind (wpAny_pure (wpAny_bind (wpAny_pyIter_list G (wpAny_bind (wpAny_newList ?_ (Wby _))))))))
 rw [zcm];refine wpAny_pure ⟨plainId_quiet Was _,?_⟩;have W:=Walks.list (prog:=prog) (w:=w) (A:=A.in1) N s.heap.objs.size l (Yaf (YaX b)) xs;have n:∀ a o,s.heap.get? a=some o->((s.heap.push { cls:=.type "list_iterator", data:=.fields #[.ref l,.int 0 0] }).push (seqObj "list" #[] 0)).get? a=some o:=fun a o x=>YaW _ (YaW _ x)
 have M:((s.heap.push { cls:=.type "list_iterator", data:=.fields #[.ref l,.int 0 0] }).push (seqObj "list" #[] 0)).get? s.heap.objs.size=some { cls:=.type "list_iterator", data:=.fields #[.ref l,.int 0 0] }:=YaW _ (Yan _ rfl);have I:((s.heap.push { cls:=.type "list_iterator", data:=.fields #[.ref l,.int 0 0] }).push (seqObj "list" #[] 0)).get? (s.heap.push { cls:=.type "list_iterator", data:=.fields #[.ref l,.int 0 0] }).objs.size=some (seqObj "list" #[] 0):=Yan _ rfl
 have j:s.heap.objs.size<(s.heap.push { cls:=.type "list_iterator", data:=.fields #[.ref l,.int 0 0] }).objs.size:=by rw [Wba];exact WaV _
 generalize (s.heap.push { cls:=.type "list_iterator", data:=.fields #[.ref l,.int 0 0] }).objs.size=S at *;generalize (s.heap.push { cls:=.type "list_iterator", data:=.fields #[.ref l,.int 0 0] }).push (seqObj "list" #[] 0)=g at *;have r:∀ a o,s.heap.get? a=some o->a≠S:=fun a o x=>Yaf (Wbp (YaX x) j)
 have B:∀ a o,s.heap.get? a=some o->a∉[s.heap.objs.size]:=fun a o x z=>Yaf (YaX x) (Ya6.mp z)
 have U:S∉[s.heap.objs.size]:=fun z=>Wbo j (Ya6.mp z)
 have C:S∉[s.heap.objs.size,l]:=fun z=>by
  rcases Wbe.mp z with z|z
  . exact Wbo j z
  . exact r l _ b (Ya6.mp z).symm
 refine codeAny_builtin War ?_
 rw [Waz Was _];refine wpAny_bind (m:=seqItems? (.ref S)) (wpAny_seqItems I rfl ?_);have H:g.IsListIter s.heap.objs.size l 0/\g.IsList l xs:=⟨⟨_,M,rfl,rfl⟩,⟨J,n _ _ b,L⟩⟩
 by_cases z:xs.size=0
 . refine wpAny_bind (wpAny_tryCatch (m:=pyNext (.ref s.heap.objs.size)) (W.done { s with heap:=g } _ _ (by rw [z];exact H) fun h tk e=>?_))
   exact wpAny_bind (wpAny_rule (wpAny_pure (F .none h tk (by rw [if_pos z]) fun a o x=>e a o (B a o x) (n a o x))))
 . refine wpAny_bind (wpAny_tryCatch (m:=pyNext (.ref s.heap.objs.size)) (W.item 0 { s with heap:=g } _ _ (Wx z) H fun v h tk X p e=>?_))
   have c:=e S _ U I;refine wpAny_bind (m:=updateSeq S fun _=>#[v,v]) (wpAny_updateSeq c rfl ?_)
   rw [zcm];refine wpAny_pure ⟨plainId_quiet Was _,zkC W u C _ 0 _ v _ rfl (Wx z) (W.frame _ _ _ p fun a O o x=>(Wan _ _ (fun q:S=a=>C (by rw [q];exact O))).trans x) X (Wat _ c rfl) fun R P y T K=>F R P y (by rw [if_neg z];exact T) fun a o x=>K a o (B a o x) (r a o x) ((Wan _ _ (WbA (r a o x))).trans (e a o (B a o x) (n a o x)))⟩
end
section
variable{vp:Pos}
def zhj(K:Ybf)(Q:VK):V->Hp->Prop:=fun v H1=>∃ (p:Addr) (ns:List Int),v=.ref p/\SqL K H1 p (ns.map V.int)/\(ns=[]->Q .non H1)/\(ns≠[]->Q (.int (minL ns)) H1)
def zil(K:Ybf)(tl:TE):TE:=fun σ H Q=>tl σ H (zhj K Q)
theorem zh9(N:X.calm=true)(m:PE X (.ListComp elt gens csc cp) tl)(F:Gl X "min")(C:X.mg "min" = none):PE X (.Call (.Name "min" np) [.ListComp elt gens csc cp] [⟨some "default", .Constant .none 0 vp,kp⟩] cpos) (zil X.K tl):=by
 intro j s σ H Q I o;refine wpAny_Call_Name_kw (Js I F C (by rfl) ?_)
 refine callWith_kw ?_
 refine thn ((zn m zJ) cpos j s σ H (L3.one1 (zhj X.K Q)) I o) fun O P L=>?_
 obtain⟨R,g,l,q,i⟩:=L;obtain⟨p,c,rfl,J,E,M⟩:∃ (p:Addr) (c:List Int),O=[.ref p]/\SqL X.K g p (c.map V.int)/\(c=[]->Q .non g)/\(c≠[]->Q (.int (minL c)) g):=by
  cases q with
  | nil=>exact i.elim
  | cons a b=>
   cases b with
   | nil=>obtain⟨p,c,rfl,h⟩:=i;cases a;exact⟨p,c,rfl,h⟩
   | cons _ _=>exact i.elim
 refine wpAny_evalAll_cons (wpAny_bind (wpAny_pure (wpAny_bind (wpAny_standAt (wpAny_pure (wpAny_evalAll_nil ?_))))))
 obtain⟨K,q,B,_⟩:=l.list J;obtain⟨r,i,n⟩:=zcP (zaI q);have m:=B.isList;rw [i] at m;have G:(intItems r).size=c.length:=by rw [<-n,YaR];simp [intItems]
 refine ziN (l.ok.hd N) m (CmpOf.ints_lt (numAt r) fun _ _=>intItems_at) fun v S w e kp=>?_
 rw [zcj n,G] at e
 by_cases z:c.length=0
 . rw [if_pos z] at e
   exact⟨.non,g,l.kept (t':=w) kp,e,E (Wal.mp z)⟩
 . rw [if_neg z] at e
   have u:=zei c (c.length - 1) #[0]
   rw [show c.length - 1+1=c.length by omega,YaH] at u
   obtain⟨t,A⟩:=intItems_at e;rw [zcj n] at A;exact⟨.int (minL c),g,l.kept (t':=w) kp,⟨t,by rw [<-u,A]⟩,M fun y=>z (by rw [y];rfl)⟩
end
end L2
namespace L3
open PySem PySem.Spec PyProof.Rows L2
variable[LamW]
section
variable{vp:Pos}
def Zw(te:TE3):TE3:=fun ρ Q=>te ρ fun c=>c.dat=true/\∃ ds ns,c.d=.list ds/\Jf ds=some ns/\(ns=[]->Q (.sh true .none))/\(ns≠[]->Q (.sh true (.int (minL ns))))
theorem mnD{te:TE3}(B:X.calm=true)(s:Gl X "min")(r:X.mg "min" = none)(j:PE3 X H0 (.ListComp elt gens csc cp) te):PE3 X H0 (.Call (.Name "min" np) [.ListComp elt gens csc cp] [⟨some "default", .Constant .none 0 vp,kp⟩] cpos) (Zw te):=by
 refine⟨fun ρ Q I h q=>j.mono ρ _ _ (fun c=>fun⟨a,p,g,b,e,x,y⟩=>⟨a,p,g,b,e,fun z=>h _ (x z),fun z=>h _ (y z)⟩) q,PE.imp (zh9 B j.ok s r) fun σ H Q=>el5 fun A ρ G F q=>⟨A,ρ,G,F,j.mono ρ _ _ (fun c m v o n i u=>?_) q⟩⟩
 obtain⟨a,p,g,b,e,x,y⟩:=m;obtain⟨l,E,rfl,w,C⟩:=zag u i.sub a b;cases zbp C.rd e;exact⟨l,g,rfl,w,fun z=>x z _ o n i (.sh (.sc rfl .non)),fun z=>y z _ o n i (.sh (.sc rfl (.int _)))⟩
end
end L3
open PySem PySem.Spec PyProof.Rows L2
namespace Law
open PySem L2 L3
theorem ziJ{α : Type}{us:List α}(h:us.length=1):∃ a0,us=[a0]:=match us,h with|[a0],_=>⟨a0,rfl⟩
theorem zaW{α : Type}{us:List α}(h:us.length=2):∃ a0 a1,us=[a0,a1]:=match us,h with|[a0,a1],_=>⟨a0,a1,rfl⟩
theorem zbf{α : Type}{us:List α}(h:us.length=3):∃ a0 a1 a2,us=[a0,a1,a2]:=match us,h with|[a0,a1,a2],_=>⟨a0,a1,a2,rfl⟩
theorem zaL{α : Type}{us:List α}(h:us.length=4):∃ a0 a1 a2 a3,us=[a0,a1,a2,a3]:=match us,h with|[a0,a1,a2,a3],_=>⟨a0,a1,a2,a3,rfl⟩
theorem zdw{α : Type}{us:List α}(h:us.length=5):∃ a0 a1 a2 a3 a4,us=[a0,a1,a2,a3,a4]:=match us,h with|[a0,a1,a2,a3,a4],_=>⟨a0,a1,a2,a3,a4,rfl⟩
noncomputable def top(i:Nat):Stmt:=PySem.Challenge.pw_chairclans_k37_mended_against_all_rows.main.body.getD i (.Pass ⟨0,0,0,0⟩)
abbrev zbw:Stmt:=top 64
abbrev zbD:Stmt:=top 65
abbrev zbA:Stmt:=top 31
abbrev zce:Stmt:=top 41
abbrev zbk:Stmt:=top 43
abbrev jW:Stmt:=top 51
abbrev zaF:Stmt:=top 54
abbrev zb0:Stmt:=top 70
noncomputable def zjs(s:Stmt):Stmt:=match s with
 | .ClassDef _ _ _ b _ _ _ _ _ _ _=>b.getD 0 (.Pass ⟨0,0,0,0⟩)
 | s=>s
noncomputable abbrev Ji:Stmt:=zjs (top 49)
noncomputable abbrev lamP:Pos:=⟨228,66,228,90⟩
noncomputable abbrev lamQ:Str:=(envOfC "nearest" (zg jW) 0 0 .none).qual ++ "<lambda>"
instance:LamW:=⟨lamP,lamQ⟩
structure Cl where
 ClanError:Addr
 NoSpell:Addr
 NoRow:Addr
 NoBounds:Addr
 NoRule:Addr
 Market:Addr
 c0:Addr
 tb:Addr
def DA(K:Ybf)(mg:Str->Option Value)(x:Str)(st:Stmt):Prop:=∃ f fd,Fun K x x st f fd/\mg x=some (.ref f)
structure TxtD(K:Ybf)(mg:Str->Option Value):Prop where
 d_first_price:DA K mg "first_price" (top 48)
 d_law_cell_at:DA K mg "_law_cell_at" (top 57)
 d_law_mixed:DA K mg "_law_mixed" (top 58)
 d_law_wide:DA K mg "_law_wide" (top 59)
 d_law_spells:DA K mg "_law_spells" (top 60)
 d_law_quotas:DA K mg "_law_quotas" (top 61)
 d_law_row:DA K mg "_law_row" zbw
 d_law_ratio:DA K mg "_law_ratio" (top 62)
 d_law_limits:DA K mg "_law_limits" zbD
 d_law_rules:DA K mg "_law_rules" (top 66)
 d_check_weights:DA K mg "check_weights" (top 25)
 d_all_turns:DA K mg "all_turns" (top 26)
 d_check_spells:DA K mg "check_spells" (top 27)
 d_common_divisor:DA K mg "common_divisor" (top 7)
 d_divisor_of_all:DA K mg "divisor_of_all" (top 28)
 d_least_bottom:DA K mg "least_bottom" (top 29)
 d_shares_over:DA K mg "shares_over" (top 30)
 d_quotas:DA K mg "quotas" zbA
 d_first_turn:DA K mg "first_turn" (top 33)
 d_window_of:DA K mg "window_of" (top 34)
 d_windows_of_clan:DA K mg "windows_of_clan" (top 35)
 d_windows_within:DA K mg "windows_within" (top 36)
 d_check_turn:DA K mg "check_turn" (top 18)
 d_check_rules:DA K mg "check_rules" (top 19)
 d_forbidden:DA K mg "forbidden" (top 20)
 d_may_come:DA K mg "may_come" (top 38)
 d_choices_of_turns:DA K mg "choices_of_turns" (top 39)
 d_check_row:DA K mg "check_row" (top 45)
 d_choices_of_visits:DA K mg "choices_of_visits" (top 40)
 d_move_along:DA K mg "move_along" zce
 d_settle:DA K mg "settle" (top 42)
 d_place_visits:DA K mg "place_visits" zbk
 d_costs_of_turns:DA K mg "costs_of_turns" (top 47)
 d_look_from:DA K mg "look_from" (top 50)
 d_change_prices:DA K mg "change_prices" (top 52)
 d_serve:DA K mg "serve" (top 53)
 d_mend_visits:DA K mg "mend_visits" zaF
 d_less:DA K mg "less" (top 8)
 d_check_bounds:DA K mg "check_bounds" (top 12)
 d_room_at_most:DA K mg "room_at_most" (top 13)
 d_rooms_of:DA K mg "rooms_of" (top 14)
 d_mended:DA K mg "mended" (top 55)
 d_law_within:DA K mg "_law_within" (top 68)
 d_law_lets:DA K mg "_law_lets" (top 67)
 d_law_fewest:DA K mg "_law_fewest" (top 69)
 d_law:DA K mg "law" zb0
 n_abs:mg "abs" = none
 n_enumerate:mg "enumerate" = none
 n_int:mg "int" = none
 n_len:mg "len" = none
 n_list:mg "list" = none
 n_max:mg "max" = none
 n_min:mg "min" = none
 n_range:mg "range" = none
 n_sorted:mg "sorted" = none
 n_sum:mg "sum" = none
 n_zip:mg "zip" = none
structure Txt(c:Law.Cl)(K:Ybf)(mg:Str->Option Value):Prop extends TxtD K mg where
 d_nearest:DA K mg "nearest" jW
 x_nearest:∃ f fd,Fun K "nearest" "nearest" jW f fd/\mg "nearest" = some (.ref f)/\fd.code=.ref c.c0
 hdC:∀ h,K.In h->Yf h c.c0 c.tb
 tab:Y5 K "nearest" = some (c.c0,c.tb)
 nop:K.lookup c.tb=none
 m_ClanError:mg "ClanError" = some (.ref c.ClanError)
 m_NoSpell:mg "NoSpell" = some (.ref c.NoSpell)
 m_NoRow:mg "NoRow" = some (.ref c.NoRow)
 m_NoBounds:mg "NoBounds" = some (.ref c.NoBounds)
 m_NoRule:mg "NoRule" = some (.ref c.NoRule)
 m_Market:mg "Market" = some (.ref c.Market)
 x_init:∃ fi fdi,Fun K "__init__" "Market.__init__" Ji fi fdi/\Mk K c.Market fi
 cl_M:Cls K c.Market
 na_costs:zO K c.Market "costs"
 na_turn_prices:zO K c.Market "turn_prices"
 na_visit_prices:zO K c.Market "visit_prices"
 na_taken:zO K c.Market "taken"
 na_holders:zO K c.Market "holders"
 e_NoSpell:Xw K c.NoSpell bmVE "ValueError.__new__" = true
 e_NoBounds:Xw K c.NoBounds bmVE "ValueError.__new__" = true
 e_NoRule:Xw K c.NoRule bmVE "ValueError.__new__" = true
 e_NoRow:Xw K c.NoRow bmVE "ValueError.__new__" = true
 m_LEAST_BOUND:∃ a,mg "LEAST_BOUND" = some (.ref a)/\TupI K a [0,1]
 m_MOST_BOUND:∃ a,mg "MOST_BOUND" = some (.ref a)/\TupI K a [10,1]
 m_FIXED:∃ t,mg "FIXED" = some (.str "fixed" t)
 m_BARRED:∃ t,mg "BARRED" = some (.str "barred" t)
 m_MOST_SPELLS:∃ t,mg "MOST_SPELLS" = some (.int 8 t)
 m_MOST_CLANS:∃ t,mg "MOST_CLANS" = some (.int 8 t)
 m_MOST_TURNS:∃ t,mg "MOST_TURNS" = some (.int 60 t)
theorem zgA{g l:Int}(a:0<=g)(b:0<l):Xp l (g%l)=Xp g l:=by
 obtain⟨m,rfl⟩:=Y6 a;obtain⟨n,rfl⟩:=Y6 (YF b);rw [<-Int.natCast_emod,Y7,Y7,Us n,<-Nat.gcd_rec,Us]
theorem zfK{g:Int}(a:0<=g):(Xp g 0:Int)=g:=by
 rw [Int.gcd_zero_right];omega
theorem zed(a b):Xp (if a<0 then -a else a) (if b<0 then -b else b)=Xp a b:=by
 split<;>split<;>simp
noncomputable def dR(a b:Int):D:=.tuple [.int (a/(Xp a b:Int)),.int (b/(Xp a b:Int))]
theorem zg3{a:Int}(h:0<b):0<(Xp a b:Int):=by
 have:0<Xp a b:=Wac _ #[0]
 omega
theorem zlg{a:Int}(h:0<b)(c:Bits k b):Bits k (Xp a b:Int):=by
 refine c.le ?_
 have:=Int.gcd_le_right a (h)
 omega
theorem zeA{a:Int}(h:0<b)(c:Bits 9000 b):jY x (Xp a b:Int):=⟨zg3 h,zlg h c⟩
abbrev Spell:=Int×List Int
noncomputable def dI(ns:List Int):D:=.list (ns.map .int)
noncomputable def dS(s:Spell):D:=.tuple [.int s.1,dI s.2]
noncomputable def dSs(l:List Spell):D:=.list (l.map dS)
def okW(ws:List Int):Prop:=(1<=ws.length/\ws.length<=8)/\(∀ w∈ws,0<=w/\w<10 ^ 30)/\ws.sum≠0
noncomputable def tot(l:List Spell):Int:=(l.map (·.1)).sum
noncomputable def many(l:List Spell):Nat:=(l.headD (0,[])).2.length
def okS(l:List Spell):Prop:=(1<=l.length/\l.length<=8)/\(∀ s∈l,1<=s.1/\okW s.2/\s.2.length=many l)/\tot l<=60
theorem p30:JU 10 30:=powB (k:=4) (by unfold Bits;decide) #[1] #[1]
theorem za5:∀ {ws:List Int},(∀ w∈ws,0<=w)->0<=ws.sum
 | [],_=>by simp
 | w :: ws, h => by
  rw [XA];have:=za5 fun x a=>h x (YaT _ a)
  have:=h w YaV
  omega
theorem zeU{B:Int}:∀ {ws:List Int},(∀ w∈ws,w<B)->ws.sum<=ws.length*B
 | [],_=>by simp
 | w :: ws, h => by
  rw [XA,Xq];have:=zeU fun x a=>h x (YaT _ a)
  have:=h w YaV
  grind
theorem jK(h:okW ws):0<ws.sum:=by
 have:=za5 fun w a=>(h.2.1 w a).1
 have:=h.2.2
 omega
theorem zja(h:okW ws):ws.sum<=8*10 ^ 30:=by
 have b:=zeU fun w a=>(h.2.1 w a).2
 have c:(ws.length:Int)*10 ^ 30<=8*10 ^ 30:=Ybe (by have:=h.1.2;lia) #[1]
 lia
theorem zej{B:Int}(b:0<=x)(h:x<=B)(a:B.natAbs<2 ^ k):Bits k x:=by
 unfold Bits
 omega
theorem ZH(h:okW ws):Bits 103 ws.sum:=zej (YF (jK h)) (zja h) #[1]
theorem zgF(h:okW ws){w:Int}(a:w∈ws):Bits 100 w:=zej (h.2.1 w a).1 (YF (h.2.1 w a).2) #[1]
noncomputable def gcdL(ws:List Int):Int:=ws.foldl (fun a b=>(Xp a b:Int)) 0
noncomputable def parts(ws:List Int):Int:=ws.sum/gcdL ws
noncomputable def bot1(b:Int)(s:Spell):Int:=b*parts s.2/(Xp b (parts s.2):Int)
noncomputable def bot(l:List Spell):Int:=l.foldl bot1 1
theorem zc4:∀ (ws:List Int) (a:Int),0<=a->0<=ws.foldl (fun a b=>(Xp a b:Int)) a/\ws.foldl (fun a b=>(Xp a b:Int)) a∣a/\∀ w∈ws,ws.foldl (fun a b=>(Xp a b:Int)) a∣w
 | [],a,h=>⟨h,WN _,fun w i=>by cases i⟩
 | w :: ws, a, h => by
  obtain⟨g,c,j⟩:=zc4 ws (Xp a w) #[0]
  refine⟨g,Wbg c (WaY a w),fun x e=>?_⟩
  rcases Wbe.mp e with rfl|e
  . exact Wbg c (WaM a x)
  simp_all
theorem zir(ws):0<=gcdL ws:=(zc4 ws 0 #[1]).1
theorem zfH{w:Int}(h:w∈ws):gcdL ws∣w:=(zc4 ws 0 #[1]).2.2 w h
theorem zgE{d:Int}:∀ {ws:List Int},(∀ w∈ws,d∣w)->d∣ws.sum
 | [],_=>by simp
 | w::ws,h=>Int.dvd_add (h w YaV) (zgE fun x a=>h x (YaT _ a))
theorem zc0(ws):gcdL ws∣ws.sum:=zgE fun w a=>zfH a
theorem zcL(h:okW ws):0<gcdL ws:=by
 have a:=zir ws;have c:=jK h;have b:=zc0 ws
 by_cases e:gcdL ws=0
 . simp_all
 . omega
theorem zmf(h:okW ws):gcdL ws<=ws.sum:=Um (jK h) (zc0 ws)
theorem zdL:parts ws*gcdL ws=ws.sum:=Yaw (zc0 ws)
theorem JO(h:okW ws):0<parts ws:=by
 have a:=zcL h;have c:=jK h;have b:=zdL (ws:=ws)
 by_cases e:0<parts ws
 . exact e
 . have:parts ws*gcdL ws<=0:=X2 #[94] #[94]
   lia
theorem zlD(h:okW ws):parts ws<=ws.sum:=Y8 _ (YF (jK h))
theorem zdD(h:okW ws):Bits 103 (parts ws):=(ZH h).le (by have:=JO h;have:=zlD h;omega)
theorem zfD{p:Int}(h:0<p):(0:Int)<(Xp b p:Int):=by
 have:=Wac b (show p≠0 by omega)
 omega
theorem zns{p:Int}(h:0<p):(Xp b p:Int)<=p:=Um h (WaM b p)
theorem zhb{s:Spell}(g:0<b)(h:okW s.2):0<bot1 b s:=by
 have a:=JO h;have c:(Xp b (parts s.2):Int)∣b*parts s.2:=Wbg (WaY _ _) (WH _ _);have j:=Yaw c;have i:=W7 g a
 by_cases e:0<b*parts s.2/(Xp b (parts s.2))
 . exact e
 . have:b*parts s.2/(Xp b (parts s.2))*(Xp b (parts s.2))<=0:=X2 #[94] #[94]
   lia
theorem zlN{s:Spell}(a:0<b)(e:Bits k b)(h:okW s.2):Bits (k+103) (bot1 b s):=(e.mul (zdD h)).le (by
 have c:=W7 a (JO h);have i:=zhb a h;have g:bot1 b s<=b*parts s.2:=Y8 _ (YF c)
 lia)
theorem zbr:∀ (l:List Spell) (b:Int) (k:Nat),(∀ s∈l,okW s.2)->0<b->Bits k b->0<l.foldl bot1 b/\Bits (k+103*l.length) (l.foldl bot1 b)
 | [],b,k,_,h,h'=>⟨h,by simp_all⟩
 | s :: l, b, k, hs, h, h' => by
  have a:=hs s YaV;have:=zbr l _ _ (fun x c=>hs x (YaT _ c)) (zhb h a) (zlN h h' a)
  refine⟨this.1,this.2.mono ?_⟩
  grind
theorem zbs{l:List Spell}(h:okS l):0<bot l:=(zbr l 1 1 (fun s a=>(h.2.1 s a).2.1) #[1] (by unfold Bits;decide)).1
theorem zeg{l:List Spell}(h:okS l):Bits 900 (bot l):=(zbr l 1 1 (fun s a=>(h.2.1 s a).2.1) #[1] (by unfold Bits;decide)).2.mono (by have:=h.1.2;omega)
noncomputable def shares(b:Int)(ws:List Int):List Int:=ws.map fun w=>w*b/ws.sum
noncomputable def addL(xs ys:List Int):List Int:=(xs.zip ys).map fun p=>p.1+p.2
noncomputable def zE(sh:List Int)(p:List Int×List (List Int)):List Int×List (List Int):=(addL p.1 sh,p.2++[addL p.1 sh])
noncomputable def rep{α : Type}(f:α->α):Nat->α->α
 | 0,x=>x
 | n+1,x=>rep f n (f x)
noncomputable def runQ(b:Int)(l:List Spell)(p:List Int×List (List Int)):List Int×List (List Int):=l.foldl (fun p s=>rep (zE (shares b s.2)) s.1.toNat p) p
noncomputable def zeros(l:List Spell):List Int:=Xb (many l) 0
noncomputable def quo(l:List Spell):List (List Int):=(runQ (bot l) l (zeros l,[zeros l])).2
theorem zbm(a:List Int):∀ n p,(rep (zE a) n p).2.length=p.2.length+n
 | 0,p=>rfl
 | n+1,p=>by rw [rep,zbm a n];simp [zE];omega
theorem jM{l:List Spell}(h:∀ s∈l,1<=s.1):0<=tot l:=za5 fun w a=>by
 obtain⟨s,b,rfl⟩:=Ya7.mp a
 grind
theorem zeM{l:List Spell}(h:∀ s∈l,1<=s.1){s:Spell}(c:s∈l):s.1<=tot l:=by
 unfold tot
 induction l with
 | nil=>cases c
 | cons a l e=>
  have g:0<=(l.map (·.1)).sum:=jM fun x b=>h x (YaT _ b)
  grind
theorem zby{l:List Spell}(h:okS l):((quo l).length:Int)=tot l+1:=by
 have c:∀ (l:List Spell) (b:Int) (p:List Int×List _),(∀ s∈l,1<=s.1)->((runQ b l p).2.length)=p.2.length+tot l:=by
  intro l
  induction l with
  | nil=>intro b p _;simp [runQ,tot]
  | cons s l e=>
   intro b p a;have:=e b (rep (zE (shares b s.2)) s.1.toNat p) fun x g=>a x (YaT _ g)
   show((runQ b l _).2.length:Int)=_
   rw [this,zbm];unfold tot
   grind
 have:=c l (bot l) (zeros l,[zeros l]) fun s a=>(h.2.1 s a).1
 unfold quo;rw [this];grind
theorem zea(e:α->β)(xs)(lo a):cut (xs.map e) lo a=(cut xs lo a).map e:=by
 unfold cut
 simp_all
theorem zk4(xs:List α){i:Int}(h:0<=i)(h':i<=xs.length):cut xs none (some i)=xs.take i.toNat:=by
 unfold cut;have e:HT.sIx xs.length xs.length (some i)=i.toNat:=by
  have:=HT.sIx_nat xs.length xs.length i.toNat
  grind
 rw [e];simp [HT.sIx_none]
theorem znK(xs:List α){i:Int}(h:0<=i)(h':i<=xs.length):cut xs (some i) none=xs.drop i.toNat:=by
 unfold cut;have e:HT.sIx xs.length 0 (some i)=i.toNat:=by
  have:=HT.sIx_nat xs.length 0 i.toNat
  grind
 rw [e,HT.sIx_none]
 apply Wao
 simp
theorem zdT:∀ (xs:List Int) (x:Int),(xs.foldl (fun a b=>if b > a then b else a) x∈x::xs)/\x<=xs.foldl (fun a b=>if b > a then b else a) x/\∀ w∈xs,w<=xs.foldl (fun a b=>if b > a then b else a) x
 | [],x=>⟨by simp,Wbz _,fun w h=>by cases h⟩
 | y :: ys, x => by
  rw [Xo]
  by_cases h:y > x
  . rw [if_pos h]
    obtain⟨c,e,g⟩:=zdT ys y
    grind
  . rw [if_neg h]
    obtain⟨c,e,g⟩:=zdT ys x
    grind
theorem zgL(h:ws≠[]):maxL ws∈ws:=by
 cases ws with
 | nil=>grind
 | cons x a=>exact(zdT a x).1
theorem zjI{s:Spell}(h:okW s.2):parts s.2∣bot1 b s:=by
 unfold bot1;rw [WO,YG _ (WaY b _)]
 simp_all
theorem zmx{s:Spell}:b∣bot1 b s:=by
 unfold bot1;rw [YG _ (WaM b _)]
 simp_all
theorem zb6{a b:List Int}(h:a.length=b.length):(addL a b).length=a.length:=by unfold addL;grind
theorem zdr(b)(ws):(shares b ws).length=ws.length:=YaR ..
theorem zf8:∀ (l:List Spell) (b:Int),b∣l.foldl bot1 b
 | [],b=>WN b
 | s::l,b=>Wbg zmx (zf8 l _)
theorem zgn:∀ (l:List Spell) (b:Int),(∀ s∈l,okW s.2)->∀ s∈l,parts s.2∣l.foldl bot1 b
 | [],b,_,s,h=>by cases h
 | a :: l, b, hok, s, h => by
  rcases Wbe.mp h with rfl|h
  . exact Wbg (zjI (hok s YaV)) (zf8 l _)
  . exact zgn l _ (fun x c=>hok x (YaT _ c)) s h
theorem zfJ{w:Int}(h:okW ws)(a:parts ws∣b)(c:w∈ws):w*b/ws.sum*ws.sum=w*b:=by
 apply Yaw
 obtain⟨k,rfl⟩:=a;obtain⟨j,g⟩:=zfH c;have e:=zdL (ws:=ws);refine⟨j*k,?_⟩
 grind
theorem znE(h:okW ws)(e:parts ws∣b)(a:parts ws∣b'):(shares b ws).map (· * b')=(shares b' ws).map (· * b):=by
 unfold shares;rw [YaD,YaD]
 apply Yat
 intro w c
 simp
 have j:=zfJ h e c;have g:=zfJ h a c;have i:=jK h
 apply Int.eq_of_mul_eq_mul_right (show ws.sum≠0 by omega)
 grind
def J5(b b':Int)(p p':List Int×List (List Int)):Prop:=p.1.map (· * b')=p'.1.map (· * b)/\p.2.map (Yg (· * b'))=p'.2.map (Yg (· * b))
theorem zgH(c)(a d):(addL a d).map (· * c)=addL (a.map (· * c)) (d.map (· * c)):=by
 unfold addL;rw [List.zip_map]
 simp [W8]
theorem zjE(a:sh.map (· * b')=sh'.map (· * b))(h:J5 b b' p p'):J5 b b' (zE sh p) (zE sh' p'):=by
 have e:(addL p.1 sh).map (· * b')=(addL p'.1 sh').map (· * b):=by rw [zgH,zgH,h.1,a]
 refine⟨e,?_⟩
 show(p.2++[addL p.1 sh]).map _=(p'.2++[addL p'.1 sh']).map _
 rw [Ya2,Ya2,h.2,Ya1,e];rfl
theorem zeP{b b':Int}{sh sh':List Int}(a:sh.map (· * b')=sh'.map (· * b)):∀ (n:Nat) {p p':List Int×List (List Int)},J5 b b' p p'->J5 b b' (rep (zE sh) n p) (rep (zE sh') n p')
 | 0,_,_,h=>h
 | n+1,_,_,h=>zeP a n (zjE a h)
theorem zey{b b':Int}:∀ (l:List Spell),(∀ s∈l,okW s.2/\parts s.2∣b/\parts s.2∣b')->∀ {p p':List Int×List (List Int)},J5 b b' p p'->J5 b b' (runQ b l p) (runQ b' l p')
 | [],_,_,_,h=>h
 | s :: l, hs, p, p', h => by
  obtain⟨e,a,g⟩:=hs s YaV;exact zey l (fun x c=>hs x (YaT _ c)) (zeP (znE e a g) _ h)
noncomputable def zi(l:List Spell):Int:=l.foldl (fun b s=>b*s.2.sum) 1
noncomputable def quoB(b:Int)(l:List Spell):List (List Int):=(runQ b l (zeros l,[zeros l])).2
theorem zgb:∀ (l:List Spell) (b:Int),b∣l.foldl (fun b s=>b*s.2.sum) b
 | [],b=>WN b
 | s::l,b=>Wbg (WH b _) (zgb l _)
theorem zfB{l:List Spell}{s:Spell}(h:s∈l):s.2.sum∣zi l:=by
 have:∀ (l:List Spell) (b:Int),s∈l->s.2.sum∣l.foldl (fun b s=>b*s.2.sum) b:=by
  intro l
  induction l with
  | nil=>simp_all
  | cons a l c=>
   intro b h
   rcases Wbe.mp h with rfl|h
   . exact Wbg (Int.dvd_mul_left b _) (zgb l _)
   . exact c _ h
 exact this l 1 h
theorem zbC:∀ (l:List Spell) (b:Int) (k:Nat),(∀ s∈l,okW s.2)->0<b->Bits k b->0<l.foldl (fun b s=>b*s.2.sum) b/\Bits (k+103*l.length) (l.foldl (fun b s=>b*s.2.sum) b)
 | [],b,k,_,h,hb=>⟨h,hb.mono (by simp)⟩
 | s :: l, b, k, hs, h, hb => by
  have a:=hs s YaV;have:=zbC l _ _ (fun t c=>hs t (YaT _ c)) (W7 h (jK a)) (hb.mul (ZH a))
  exact⟨this.1,this.2.mono (by grind)⟩
theorem zcg{l:List Spell}(h:okS l):0<zi l:=(zbC l 1 1 (fun s a=>(h.2.1 s a).2.1) #[1] (by unfold Bits;decide)).1
theorem zbu{l:List Spell}(h:okS l):Bits 900 (zi l):=(zbC l 1 1 (fun s a=>(h.2.1 s a).2.1) #[1] (by unfold Bits;decide)).2.mono (by have:=h.1.2;omega)
theorem zlk(ws):parts ws∣ws.sum:=⟨gcdL ws,zdL.symm⟩
theorem zjg{l:List Spell}(h:okS l):(quo l).map (Yg (· * zi l))=(quoB (zi l) l).map (Yg (· * bot l)):=by
 have:=zey l (fun s a=>⟨(h.2.1 s a).2.1,zgn l 1 (fun t b=>(h.2.1 t b).2.1) s a,Wbg (zlk s.2) (zfB a)⟩) (p:=(zeros l,[zeros l])) (p':=(zeros l,[zeros l])) ?_
 . exact this.2
 . unfold J5 zeros;simp
theorem znA(b):∀ (l:List Spell) (p:List Int×List (List Int)),(∀ s∈l,1<=s.1)->((runQ b l p).2.length:Int)=p.2.length+tot l:=by
 intro l
 induction l with
 | nil=>intro p _;simp [runQ,tot]
 | cons s l c=>
  intro p a;have:=c (rep (zE (shares b s.2)) s.1.toNat p) fun x e=>a x (YaT _ e)
  show((runQ b l _).2.length:Int)=_
  rw [this,zbm];unfold tot
  grind
theorem zbX{l:List Spell}(h:okS l)(b):((quoB b l).length:Int)=tot l+1:=by
 unfold quoB;rw [znA b l _ fun s a=>(h.2.1 s a).1]
 grind
def JC(n:Nat)(p:List Int×List (List Int)):Prop:=p.1.length=n/\∀ r∈p.2,r.length=n
theorem zfj{n:Nat}{sh:List Int}(a:sh.length=n):∀ (k:Nat) (p:List Int×List (List Int)),JC n p->JC n (rep (zE sh) k p)
 | 0,p,h=>h
 | k + 1, p, h => zfj a k _ (by
  have e:(addL p.1 sh).length=n:=by rw [zb6 (by rw [h.1,a]),h.1]
  refine⟨e,fun r b=>?_⟩
  rcases Ya3.mp b with z|z
  . exact h.2 r z
  grind)
theorem zfX{n:Nat}(b:Int):∀ (l:List Spell) (p:List Int×List (List Int)),(∀ s∈l,s.2.length=n)->JC n p->JC n (runQ b l p)
 | [],p,_,h=>h
 | s::l,p,hs,h=>zfX b l _ (fun t a=>hs t (YaT _ a)) (zfj (by rw [zdr];exact hs s YaV) _ _ h)
theorem za8{l:List Spell}(h:okS l)(a:r∈quoB b l):r.length=many l:=
 (zfX b l _ (fun s c=>(h.2.1 s c).2.2) ⟨by unfold zeros;simp,fun r a=>by rw [Ya6.mp a];unfold zeros;simp⟩).2 r a
theorem zcb{l:List Spell}(h:okS l):1<=many l/\many l<=8:=by
 cases l with
 | nil=>have:=h.1.1;simp at this
 | cons a r=>exact(h.2.1 a YaV).2.1.1
theorem ziH(b):∀ (l:List Spell) (p:List Int×List (List Int)) (x:List Int) (r:List (List Int)),p.2=x::r->∃ r',(runQ b l p).2=x::r':=by
 have a:∀ (e:List Int) (k:Nat) (p:List Int×List _) (x:List Int) (r:List _),p.2=x::r->∃ r',(rep (zE e) k p).2=x::r':=by
  intro e k
  induction k with
  | zero=>intro p x r h;exact⟨r,h⟩
  | succ k c=>intro p x r h;exact c _ x _ (by show p.2++[_]=_;rw [h];rfl)
 intro l
 induction l with
 | nil=>intro p x r h;exact⟨r,h⟩
 | cons s l c=>
  intro p x r h;obtain⟨r',g⟩:=a _ _ p x r h;exact c _ x r' g
theorem znG(b)(l):∃ r,quoB b l=zeros l::r:=ziH b l _ _ [] rfl
theorem zck:∀ (xs:List Int) (x:Int),(xs.foldl (fun a b=>if b<a then b else a) x∈x::xs)/\xs.foldl (fun a b=>if b<a then b else a) x<=x/\∀ y∈xs,xs.foldl (fun a b=>if b<a then b else a) x<=y
 | [],x=>⟨YaV,Wbz _,fun y h=>by cases h⟩
 | a :: xs, x => by
  have e:=zck xs (if a<x then a else x)
  refine⟨?_,?_,fun y c=>?_⟩
  . grind
  . refine Wbq e.2.1 ?_
    omega
  . rcases Wbe.mp c with rfl|c
    . refine Wbq e.2.1 ?_
      omega
    simp_all
theorem zjA(h:ws≠[]):minL ws∈ws:=by
 cases ws with
 | nil=>grind
 | cons a r=>exact(zck r a).1
theorem zkk{w:Int}(h:w∈ws):minL ws<=w:=by
 cases ws with
 | nil=>cases h
 | cons a r=>
  rcases Wbe.mp h with rfl|h
  . exact(zck r w).2.1
  . exact(zck r a).2.2 w h
noncomputable def had1(b:Int)(h:List Int)(c:Int):List Int:=h.set c.toNat (h.getD c.toNat 0+b)
noncomputable def hadN(b:Int)(n:Nat)(row:List Int):List Int:=row.foldl (had1 b) (Xb n 0)
theorem zf3(b)(h)(c):(had1 b h c).length=h.length:=by unfold had1;rw [YaN]
theorem zbe(b)(n)(row):(hadN b n row).length=n:=by
 have:∀ (row:List Int) (h:List Int),(row.foldl (had1 b) h).length=h.length:=by
  intro row
  induction row with
  | nil=>simp
  | cons c r a=>intro h;rw [Xo,a,zf3]
 unfold hadN;simp_all
theorem zi1(b)(h)(c):had1 b (h.map (· * b)) c=(had1 1 h c).map (· * b):=by
 unfold had1;rw [YaP,Ya0,YaP];cases h[c.toNat]? with
 | none=>simp
 | some x=>simp [W8]
theorem zeD(b)(n)(row):hadN b n row=(hadN 1 n row).map (· * b):=by
 have:∀ (row:List Int) (h:List Int),row.foldl (had1 b) (h.map (· * b))=(row.foldl (had1 1) h).map (· * b):=by
  intro row
  induction row with
  | nil=>simp
  | cons c r a=>intro h;rw [Xo,Xo,zi1,a]
 unfold hadN;rw [<-this]
 simp
theorem zaM(b)(n)(row)(c):hadN b n (row++[c])=had1 b (hadN b n row) c:=by unfold hadN;simp_all
noncomputable def subL(a b:List Int):List Int:=(a.zip b).map fun p=>p.1 - p.2
noncomputable def jw(b:Int)(n:Nat)(q:List (List Int))(row:List Int)(t:Nat):List Int:=subL (hadN b n (row.take (t+1))) (q.getD (t+1) [])
noncomputable def zbg(b:Int)(n:Nat)(q:List (List Int))(row:List Int)(k:Nat):List (List Int):=(Xe k).map (jw b n q row)
theorem zlA{c:Int}{h y:List Int}(e:x.map (· * c)=y.map (· * b)):(subL (h.map (· * b)) x).map (· * c)=(subL (h.map (· * c)) y).map (· * b):=by
 induction h generalizing x y with
 | nil=>simp [subL]
 | cons a h g=>
  cases x with
  | nil=>
   cases y with
   | nil=>simp [subL]
   | cons _ _=>simp at e
  | cons p x=>
   cases y with
   | nil=>simp at e
   | cons q y=>
    simp at e
    have:=g e.2;simp only [subL,Ya1,Wy] at this ⊢
    grind
theorem zfM{a:Int}(h:0<b):0<b/(Xp a b:Int)/\Xp (a/(Xp a b:Int)) (b/(Xp a b:Int))=1/\a/(Xp a b:Int)*(Xp a b:Int)=a/\b/(Xp a b:Int)*(Xp a b:Int)=b:=by
 have e:0<Xp a b:=Wac _ #[0]
 have g:=WaY a b;have c:=WaM a b;exact⟨Int.ediv_pos_of_pos_of_dvd h #[0] c,Int.gcd_ediv_gcd_ediv_gcd e,Yaw g,Yaw c⟩
def z8(n:Nat)(T:Nat)(row:List Int):Prop:=row.length=T/\∀ c∈row,0<=c/\c<(n:Int)
theorem zjT(h:∀ w∈ws,0<=w)(b:(1:Int)∈ws):ws.sum≠0:=by
 induction ws with
 | nil=>cases b
 | cons a r g=>
  have e:=za5 fun w c=>h w (YaT _ c)
  have i:=h a YaV
  grind
theorem zm4{l:List Spell}{B:Int}(h:∀ s∈l,s.1<=B):tot l<=l.length*B:=by
 unfold tot
 induction l with
 | nil=>simp
 | cons a r b=>
  have g:=h a YaV;have e:=b fun s c=>h s (YaT _ c)
  rw [Ya1,XA,Xq]
  omega
theorem zmX(l)(s):zi (l++[s])=zi l*s.2.sum:=by unfold zi;rw [WaN];rfl
theorem zeH{α : Type}(f:α->α):∀ (n:Nat) (x:α),rep f (n+1) x=f (rep f n x)
 | 0,x=>rfl
 | n+1,x=>zeH f n (f x)
theorem zg6(xs)(x:α):atI (xs++[x]) (-1)=some x:=by
 unfold atI ixN;rw [if_neg #[1],if_pos (by simp;omega)]
 have:(-1+((xs.length+[x].length):Int)).toNat=xs.length:=by grind
 simp_all
theorem zb4{xs:List Int}(h:i<xs.length):atI (xs.map Xa) (0+(i:Int))=some (Xa xs[i]):=by
 rw [Wbr];have:(xs.map Xa)[i]?=some (Xa xs[i]):=by simp
 exact jb this
theorem c64:JU 10 64:=powB (k:=4) (by unfold Bits;decide) #[1] #[1]
abbrev Rat2:=Int×Int
def dQ(r:Rat2):D:=.tuple [.int r.1,.int r.2]
noncomputable def dP(p:Rat2×Rat2):D:=.tuple [dQ p.1,dQ p.2]
noncomputable def dPs(l:List (Rat2×Rat2)):D:=.list (l.map dP)
def okQ(r:Rat2):Prop:=0<r.2/\Bits 1200 r.1/\Bits 1200 r.2
def inQ(r:Rat2):Prop:=0<=r.1/\r.1<=10*r.2
def okB(n:Nat)(l:List (Rat2×Rat2)):Prop:=l.length=n/\∀ p∈l,inQ p.1/\inQ p.2
noncomputable def jC(b:Int)(r:Rat2):Int:=r.1*b/r.2
theorem J9(h:i<rows.length):atI (rows.map dI) (i:Int)=some (XB (rows[i].map Xa)):=by
 have:(rows.map dI)[i]?=some (XB (rows[i].map Xa)):=by rw [Ya0,YaQ h];rfl
 exact jb this
theorem jU{xs:List Int}{i:Int}(c:0<=i)(h:i<xs.length):atI (xs.map Xa) i=some (Xa (xs.getD i.toNat 0)):=by
 obtain⟨x,a,_,b⟩:=zbt c h;rw [Z9,a,YaP,b];rfl
noncomputable def jJ(p:Int×Int):D:=.tuple [.int p.1,.int p.2]
noncomputable def zB(b:Int)(l:List (Rat2×Rat2)):List (Int×Int):=l.map fun p=>(jC b p.1,jC b p.2)
theorem zhF(h:∀ w∈ws,0<=w){w:Int}(b:w∈ws):w<=ws.sum:=by
 induction ws with
 | nil=>cases b
 | cons a r e=>
  rw [XA];have c:=za5 fun w b=>h w (YaT _ b)
  have g:=h a YaV
  grind
theorem zln(h:okW ws)(g:0<=b)(c:x∈shares b ws):x<=b:=by
 obtain⟨w,a,rfl⟩:=Ya7.mp c;have e:=zhF (fun w a=>(h.2.1 w a).1) a
 refine Wj (jK h) ?_
 rw [WO w b];exact Int.mul_le_mul_of_nonneg_left e g
def leP(b:Int)(p:List Int×List (List Int)):Prop:=1<=p.2.length/\(∀ x∈p.1,x<=((p.2.length:Int) - 1)*b)/\∀ r∈p.2,∀ x∈r,x<=((p.2.length:Int) - 1)*b
theorem znt(u:0<=b)(o:∀ x∈sh,x<=b)(h:leP b p):leP b (zE sh p):=by
 obtain⟨j,m,l⟩:=h;have e:(((zE sh p).2.length):Int) - 1=p.2.length:=by show(((p.2++[_]).length):Int) - 1=_;simp
 have c:∀ x∈addL p.1 sh,x<=(p.2.length)*b:=fun x a=>by
  obtain⟨q,i,rfl⟩:=Ya7.mp a;obtain⟨s,n⟩:=Wa4 i
  grind
 refine⟨by show 1<=(p.2++[_]).length;simp,by rw [e];exact c,fun r g x a=>?_⟩
 rw [e]
 rcases Ya3.mp g with z|z
 . grind
 simp_all
theorem zfv{b:Int}{sh:List Int}(c:0<=b)(a:∀ x∈sh,x<=b):∀ (n:Nat) {p:List Int×List (List Int)},leP b p->leP b (rep (zE sh) n p)
 | 0,_,h=>h
 | n+1,_,h=>zfv c a n (znt c a h)
theorem zeT{b:Int}(a:0<=b):∀ (l:List Spell) {p:List Int×List (List Int)},(∀ s∈l,okW s.2)->leP b p->leP b (runQ b l p)
 | [],_,_,h=>h
 | s::l,p,hl,h=>zeT a l (fun t e=>hl t (YaT _ e)) (zfv a (fun x c=>zln (hl s YaV) a c) _ h)
theorem zgr{l:List Spell}(h:okS l)(j:0<b):∀ r∈quoB b l,∀ x∈r,x<=tot l*b:=fun r c x a=>by
 have:=zeT (b:=b) #[0] l (p:=(zeros l,[zeros l])) (fun s e=>(h.2.1 s e).2.1) ⟨by simp,fun x a=>by
  have:=Wai a
  simp_all,fun r c x a=>by
  rw [Ya6.mp c] at a;have:=Wai a
  simp_all⟩
 have i:=this.2.2 r c x a;have g:=zbX h b;unfold quoB at g
 simp_all
def nnP(p:List Int×List (List Int)):Prop:=(∀ x∈p.1,0<=x)/\∀ r∈p.2,∀ x∈r,0<=x
theorem zna(j:∀ x∈sh,0<=x)(h:nnP p):nnP (zE sh p):=by
 have g:∀ x∈addL p.1 sh,0<=x:=fun x a=>by
  obtain⟨q,c,rfl⟩:=Ya7.mp a;obtain⟨e,i⟩:=Wa4 c;have:=h.1 _ e
  grind
 refine⟨g,fun r b x a=>?_⟩
 rcases Ya3.mp b with z|z
 . exact h.2 r z x a
 grind
theorem zgU{sh:List Int}(a:∀ x∈sh,0<=x):∀ (n:Nat) {p:List Int×List (List Int)},nnP p->nnP (rep (zE sh) n p)
 | 0,_,h=>h
 | n+1,_,h=>zgU a n (zna a h)
theorem zf1{b:Int}(c:0<=b):∀ (l:List Spell) {p:List Int×List (List Int)},(∀ s∈l,okW s.2)->nnP p->nnP (runQ b l p)
 | [],_,_,h=>h
 | s :: l, p, hl, h => zf1 c l (fun t e => hl t (YaT _ e)) (zgU (fun x i => by
  obtain⟨w,g,rfl⟩:=Ya7.mp i;have a:=hl s YaV;exact Wa5 (YaK (a.2.1 w g).1 c) (by have:=jK a;omega)) _ h)
theorem zlE{l:List Spell}(h:okS l)(g:0<=b):∀ r∈quoB b l,∀ x∈r,0<=x:=
 (zf1 g l (fun s e=>(h.2.1 s e).2.1) ⟨fun x a=>by rw [Wai a];decide,fun r c x a=>by
  rw [Ya6.mp c] at a;rw [Wai a];decide⟩).2
theorem zcG{tb:TS3}{A:Ends3}{enc:Nat->D}(P:Nat->Env3->Prop)(s:∀ k ρ,k<n->P k ρ->∀ W:Env3->Prop,(∀ ρ',P (k+1) ρ'->W ρ')->g f (enc k) ρ fun ρ'=>tb { A with nx:=W,ct:=W,bk:=A.nx } ρ')(e:∀ ρ,P n ρ->A.nx ρ)(h:P 0 ρ):forL g tb A f ((Xe n).map enc) ρ:=by
 refine jx enc _ (fun a ρ=>P a.length ρ) (fun a x b ρ i l W m=>?_) (fun ρ l=>e ρ (by simp_all)) h
 have o:=by
  have j:(Xe n)[a.length]?=some x:=by grind
  have c:a.length<n:=by have:=congrArg Ya i;simp at this;omega
  rw [Yy c] at j;exact(Wa3 j).symm
 have c:=by have:=congrArg Ya i;simp at this;omega
 simp_all
noncomputable def JG(p:Nat->Bool):Nat->Nat->Nat
 | i,0=>i
 | i,m+1=>if p i=true then i else JG p (i+1) m
noncomputable def zD(n:Nat)(p:Nat->Bool):Nat:=JG p 1 (n - 1)
theorem zlX(p):∀ (m i:Nat),i<=JG p i m/\JG p i m<=i+m/\(∀ t,i<=t->t<JG p i m->p t=false)/\(JG p i m<i+m->p (JG p i m)=true):=by
 intro m
 induction m with
 | zero=>intro i;exact⟨YaY _,YaY _,fun t b a=>absurd a (by show ¬t<i;omega),fun h=>absurd h (by show ¬i<i+0;omega)⟩
 | succ m c=>
  intro i;unfold JG
  by_cases h:p i=true
  . rw [if_pos h];grind
  grind
theorem jZ(e:1<=n)(p):1<=zD n p/\zD n p<=n/\(∀ t,1<=t->t<zD n p->p t=false)/\(zD n p<n->p (zD n p)=true):=by
 obtain⟨c,g,b,a⟩:=zlX p _ 1;exact⟨c,by unfold zD;omega,b,fun h=>a (by unfold zD at h;omega)⟩
theorem zfu(a:1<=n){p:Nat->Bool}{r:Nat}(i:1<=r)(g:r<=n)(e:∀ t,1<=t->t<r->p t=false)(c:r<n->p r=true):zD n p=r:=by
 obtain⟨j,l,b,h⟩:=jZ a p
 rcases WI (zD n p) r with z|z|z
 . grind
 . exact z
 grind
abbrev Win:=Int×Int×Int×Option Int
variable{W:List (List Win)}{l:List Spell}{A:Nat}{U:List Win}{v y s a:Int}{may:Win->Nat->Prop}{h ca far came:Tb}{R g:List Int}{ρ:Env3}
noncomputable def dO:Option Int->D
 | none=>.none
 | some i=>.int i
theorem zk1(f)(o):isNone (Cl.sh f (dO o))=o.isNone:=by cases o<;>rfl
noncomputable def dW(w:Win):D:=.tuple [.int w.1,.int w.2.1,.int w.2.2.1,dO w.2.2.2]
noncomputable def winP(n:Nat)(e l:Nat->Bool):Int×Option Int:=(zD n e,if zD n l=n then none else some (zD n l:Nat))
def JK(n:Nat)(w:Int×Option Int):Prop:=w.1<n\/w.2≠none
def IsW(n:Nat)(k:Int)(W:Int->Int×Option Int):Int->List Win->Prop
 | j,[]=>¬JK n (W j)
 | j,w::r=>JK n (W j)/\w=(k,j,(W j).1,(W j).2)/\IsW n k W (j+1) r
noncomputable def zo(q:List (List Int))(k:Nat):List Int:=q.map fun r=>r.getD k 0
noncomputable def winB(b:Int)(path:List Int)(room:Int×Int)(j:Int):Int×Option Int:=winP path.length (fun t=>decide (j*b - room.2<=path.getD t 0)) (fun t=>decide ((j - 1)*b+room.1+1<=path.getD t 0))
theorem zkw{M:Int}(o:0<b)(g:1<=path.length)(c:∀ t,path.getD t 0+room.2<=M*b)(p:0<=room.2)(i:0<=room.1)(j)(h:JK path.length (winB b path room j)):j<=M+1:=by
 have a:=fun x n=>by
  have:x*b<=(M+1)*b:=n;exact YaF this o
 rcases h with h|h
 . obtain⟨_,_,_,a4⟩:=jZ g (fun t=>decide (j*b - room.2<=path.getD t 0))
   have := of_decide_eq_true (a4 (by have : ((zD _ _) : Int) < path.length := h
                                     lia))
   have h2:=c (zD path.length fun t=>decide (j*b - room.2<=path.getD t 0))
   exact a j #[94]
 . obtain⟨_,a2,_,a4⟩:=jZ g (fun t=>decide ((j - 1)*b+room.1+1<=path.getD t 0))
   have l:zD _ _≠path.length:=fun z=>h (if_pos z)
   have h2:=c (zD path.length fun t=>decide ((j - 1)*b+room.1+1<=path.getD t 0))
   exact a j #[94]
def zcK(L:List (List Int))(R:List (Int×Int)):Prop:=∀ ld∈L,∀ (i:Nat) (x:Int) (p:Int×Int),ld[i]?=some x->R[i]?=some p->-p.1<=x/\x<=p.2
noncomputable def mxO(a y:Int):Int:=if a<y then y else a
noncomputable def mx(ld:Nat->Nat->Int)(k:Nat):Nat->Int×Int
 | 0=>(0,0)
 | t+1=>(mxO (mx ld k t).1 (-(ld t k)),mxO (mx ld k t).2 (ld t k))
noncomputable def ldF(b:Int)(n:Nat)(q:List (List Int))(row:List Int)(t k:Nat):Int:=(jw b n q row t).getD k 0
theorem zfh{c u:Int}(m:0<b)(l:0<c)(j:0<u)(e:x*c=y*b):x<=v*b/u↔y*u<=v*c:=by
 rw [Int.le_ediv_iff_mul_le j]
 constructor
 . intro h
   have a:=Ybe h (show 0<=c by omega)
   have g:x*u*c=y*u*b:=by grind
   have i:v*b*c=v*c*b:=by ac_rfl
   simp_all
 . intro h
   have a:=Ybe h (show 0<=b by omega)
   have g:x*u*c=y*u*b:=by grind
   have i:v*b*c=v*c*b:=by ac_rfl
   rw [<-g,<-i] at a;exact YaF a l
theorem ziQ{c:Int}(e:q.map (Yg (· * c))=q'.map (Yg (· * b)))(t k):ldF b n q row t k*c=ldF c n q' row t k*b:=by
 have h:(jw b n q row t).map (· * c)=(jw c n q' row t).map (· * b):=by
  unfold jw;rw [zeD b,zeD c]
  apply zlA
  have h:=congrArg (fun z=>z.getD (t+1) []) e
  simp
  cases h1:q[t+1]? <;> cases h2:q'[t+1]? <;> simp [h1,h2] at h ⊢
  . exact h
  . exact h
  . exact h
 have a:=congrArg (fun z=>z.getD k 0) h
 unfold ldF
 simp
 cases h1:(jw b n q row t)[k]? <;> cases h2:(jw c n q' row t)[k]? <;> simp [h1,h2] at a ⊢
 . exact a
 . exact a
 . exact a
noncomputable def pr2(p:Int×Int):List D:=[.int p.1,.int p.2]
theorem zcz{α: Type}(f:α->β){xs:List α}(h:i<xs.length):atI (xs.map f) (0+(i:Int))=some (f xs[i]):=jb (by simp_all)
theorem zlr{α : Type}(f)(n i)(v:α):((Xe n).map f).set i v=(Xe n).map fun k=>if k=i then v else f k:=by
 refine List.ext_getElem (by simp) fun k a b=>?_
 grind
theorem IsW.mem{n:Nat}{k:Int}{W:Int->Int×Option Int}{w:Win}:∀ {ws:List Win} {j:Int},IsW n k W j ws->w∈ws->∃ i,j<=i/\w=(k,i,(W i).1,(W i).2)
 | [],j,_,hw=>by cases hw
 | v :: r, j, h, hw => by
  rcases Wbe.mp hw with z|z
  . exact⟨j,Wbz _,by rw [z];exact h.2.1⟩
  . obtain⟨i,a,b⟩:=IsW.mem h.2.2 z
    exact⟨i,#[0],b⟩
theorem zhL{w:Win}(h:w∈W.flatten):∃ k,k<W.length/\w∈W.getD k []:=by
 obtain⟨l,b,c⟩:=WW.mp h;obtain⟨k,a,e⟩:=Yam b;refine⟨k,a,?_⟩
 simp_all
theorem zhl{w:Win}(a:k<W.length)(h:w∈W.getD k []):w∈W.flatten:=by
 rw [YaP,YaQ a] at h;exact WW.mpr ⟨W[k],Ya4 a,h⟩
noncomputable def tk(p:Nat->Bool)(t:Nat):List Nat:=(Xe t).filter p
theorem JE(p)(t):tk p (t+1)=tk p t++if p t=true then [t] else []:=by
 unfold tk;rw [Wa6]
 grind
theorem zcw(p){s:Nat}(h:s<=t):∃ r,tk p t=tk p s++r/\∀ x∈r,s<=x:=by
 induction t with
 | zero=>simp_all
 | succ t a=>
  by_cases e:s=t+1
  . simp_all
  . obtain⟨r,b,c⟩:=a #[0]
    refine⟨_,by rw [JE,b,Yag],fun x g=>?_⟩
    grind
theorem zbl(p){s:Nat}(h:s<=t):(tk p s).length<=(tk p t).length:=by
 obtain⟨r,a,_⟩:=zcw p h
 grind
theorem zky(p)(h:x∈tk p t):x<t:=Yba.mp (Ya9.mp h).1
theorem ZF(p:Nat->Bool):∀ {t j i:Nat},(tk p t)[j]?=some i->i<t/\(tk p i).length=j/\(tk p (i+1)).length=j+1
 | 0,j,i,h=>by simp [tk] at h
 | t + 1, j, i, h => by
  rw [JE] at h
  by_cases l:j<(tk p t).length
  . rw [Yab l] at h
    obtain⟨a,b⟩:=ZF p h
    grind
  . rw [Yae #[0]] at h
    split at h
    . rename_i g
      cases e:j - (tk p t).length with
      | zero=>
       rw [e] at h;cases h;have c:(tk p t).length=j:=#[0]
       exact⟨#[0],c,by rw [JE,if_pos g,YaS,c];rfl⟩
      | succ m=>simp_all
    . simp at h
theorem ziC(p){s:Nat}(h:s<=t)(a:j<(tk p s).length):∃ i,i<s/\(tk p t)[j]?=some i:=by
 obtain⟨r,b,_⟩:=zcw p h;refine⟨_,zky p (Ya4 a),?_⟩;rw [b,Yab a,YaQ a]
def okV(pos:List Nat)(w:Win):Prop:=if w.2.1<=pos.length then w.2.2.1<=((pos.getD (w.2.1 - 1).toNat 0+1:Nat):Int)/\∀ x,w.2.2.2=some x->((pos.getD (w.2.1 - 1).toNat 0+1:Nat):Int)<=x else w.2.2.2=none
theorem IsW.at{n:Nat}{k:Int}{W:Int->Int×Option Int}:∀ {ws:List Win} {j:Int} {i:Nat},IsW n k W j ws->i<ws.length->ws[i]?=some (k,j+i,(W (j+i)).1,(W (j+i)).2)
 | [],j,i,_,h=>by simp at h
 | v :: r, j, 0, h, _ => by
  rw [h.2.1]
  grind
 | v :: r, j, i + 1, h, hi => by
  have:=IsW.at h.2.2 (by simpa using hi)
  rw [Xx,this,show j+1+(i)=j+((i+1:Nat)) by omega]
theorem IsW.long{n:Nat}{k:Int}{W:Int->Int×Option Int}{m:Nat}:∀ {ws:List Win} {j:Int},IsW n k W j ws->(∀ x:Nat,x<m->JK n (W (j+x)))->m<=ws.length
 | [], j, h, ht => by
  cases m with
  | zero=>simp
  | succ m=>exact absurd (by have:=ht 0 #[0];grind) h
 | v :: r, j, h, ht => by
  cases m with
  | zero=>simp
  | succ m=>
   have:=IsW.long (m:=m) h.2.2 fun x a=>by
    grind
   grind
theorem zd4(a:1<=n){p:Nat->Bool}(e:1<=t)(h:p t=true):zD n p<=t:=by
 obtain⟨g,i,c,b⟩:=jZ a p
 grind
theorem zke(hb:0<b)(R:path.length=T+1)(q:∀ s t,s<=t->t<=T->path.getD s 0<=path.getD t 0)(h0:0<=path.getD 0 0)(a0:0<=r1)(X:0<=r2)(p){ws:List Win}(J:IsW (T+1) k (winB b path (r1,r2)) 1 ws) :
 (∀ t,t<T->-r1<=((tk p (t+1)).length:Int)*b - path.getD (t+1) 0/\((tk p (t+1)).length:Int)*b - path.getD (t+1) 0<=r2)↔((∀ w∈ws,okV (tk p T) w)/\(tk p T).length<=ws.length):=by
 have B:1<=T+1:=#[0]
 have L:∀ j,(winB b path (r1,r2) j).1=((zD (T+1) (fun t=>decide (j*b - r2<=path.getD t 0)):Nat):Int):=fun j=>by unfold winB winP;rw [R]
 have A:∀ j,(winB b path (r1,r2) j).2=if zD (T+1) (fun t=>decide ((j - 1)*b+r1+1<=path.getD t 0))=T+1 then none else some ((zD (T+1) (fun t=>decide ((j - 1)*b+r1+1<=path.getD t 0)):Nat):Int):=fun j=>by unfold winB winP;rw [R]
 have r:∀ x y:Int,x<=y->x*b<=y*b:=fun x y h=>Ybe h #[0]
 constructor
 . intro N
   have O:∀ (j i:Nat),(tk p T)[j]?=some i->zD (T+1) (fun t=>decide (((j:Int)+1)*b - r2<=path.getD t 0))<=i+1:=fun j i h=>by
    obtain⟨E,F,H⟩:=ZF p h;have:=(N i E).2;rw [H] at this;refine zd4 B #[0] (decide_eq_true ?_)
    have e:((j+1:Nat):Int)*b=((j:Int)+1)*b:=by rw [WX]
    omega
   have Q:∀ (j:Int),1<=j->zD (T+1) (fun t=>decide ((j - 1)*b+r1+1<=path.getD t 0))≠T+1->j<=((tk p (zD (T+1) (fun t=>decide ((j - 1)*b+r1+1<=path.getD t 0)))).length:Int):=fun j M n=>by
    obtain⟨E,F,H,K⟩:=jZ B (fun t=>decide ((j - 1)*b+r1+1<=path.getD t 0))
    generalize zD (T+1) (fun t=>decide ((j - 1)*b+r1+1<=path.getD t 0))=f at *
    have I:=of_decide_eq_true (K #[0])
    have u:=(N (f - 1) #[0]).1
    rw [show f - 1+1=f by omega] at u
    by_cases z:j<=((tk p f).length:Int)
    . exact z
    . have:=r ((tk p f).length:Int) (j - 1) #[0]
      omega
   refine⟨fun w hw=>?_,?_⟩
   . obtain⟨j,M,rfl⟩:=J.mem hw
     unfold okV;dsimp only
     by_cases G:j<=((tk p T).length:Int)
     . rw [if_pos G]
       have v:(j - 1).toNat<(tk p T).length:=#[0]
       have g:(tk p T)[(j - 1).toNat]?=some (tk p T)[(j - 1).toNat]:=YaQ v;have m:(tk p T).getD (j - 1).toNat 0=(tk p T)[(j - 1).toNat]:=by rw [YaP,g];rfl
       rw [m];generalize (tk p T)[(j - 1).toNat]=i at g;obtain⟨E,F,H⟩:=ZF p g;have Z:(((j - 1).toNat:Nat):Int)+1=j:=#[0]
       refine⟨?_,fun x o=>?_⟩
       . have:=O _ _ g
         rw [Z] at this;rw [L];omega
       . rw [A] at o
         split at o
         . cases o
         . rename_i n
           have:=Q j M n;cases o;generalize zD (T+1) (fun t=>decide ((j - 1)*b+r1+1<=path.getD t 0))=f at *
           by_cases z:f<i+1
           . have:=zbl p (show f<=i by omega)
             omega
           . omega
     . rw [if_neg G,A]
       split
       . rfl
       . rename_i n
         have I:=Q j M n;obtain⟨_,F,_,_⟩:=jZ B (fun t=>decide ((j - 1)*b+r1+1<=path.getD t 0))
         have:=zbl p (show zD (T+1) (fun t=>decide ((j - 1)*b+r1+1<=path.getD t 0))<=T by omega)
         omega
   . refine J.long fun x o=>.inl ?_
     have g:(tk p T)[x]?=some (tk p T)[x]:=YaQ o;have I:=O _ _ g;have u:=(ZF p g).1;rw [L,show(1:Int)+(x:Int)=(x:Int)+1 by omega]
     omega
 . rintro⟨U,hm⟩ t ht
   have C:∀ i:Nat,i<ws.length->okV (tk p T) (k,1+(i:Int),(winB b path (r1,r2) (1+(i:Int))).1,(winB b path (r1,r2) (1+(i:Int))).2):=fun i P=>U _ (Yah (J.at P))
   constructor
   . -- not too far behind
     by_cases z:-r1<=((tk p (t+1)).length:Int)*b - path.getD (t+1) 0
     . exact z
     . exfalso
       have l:∀ x:Nat,x<=(tk p (t+1)).length->zD (T+1) (fun s=>decide (((1+(x:Int)) - 1)*b+r1+1<=path.getD s 0))<=t+1:=fun x o=>by
        refine zd4 B #[0] (decide_eq_true ?_)
        have:=r (1+(x:Int) - 1) ((tk p (t+1)).length:Int) #[0]
        omega
       have S:(tk p (t+1)).length+1<=ws.length:=J.long fun x o=>.inr (by
        rw [A,if_neg (by have:=l x #[0];omega)];simp)
       have c:=C (tk p (t+1)).length #[0]
       have I:=l (tk p (t+1)).length (YaY _);unfold okV at c;dsimp only at c
       by_cases G:1+((tk p (t+1)).length:Int)<=((tk p T).length:Int)
       . rw [if_pos G,A,if_neg #[0]] at c
         have u:=c.2 _ rfl;have e:(1+((tk p (t+1)).length:Int) - 1).toNat=(tk p (t+1)).length:=#[0]
         rw [e] at u;have v:(tk p (t+1)).length<(tk p T).length:=#[0]
         have g:(tk p T)[(tk p (t+1)).length]?=some (tk p T)[(tk p (t+1)).length]:=YaQ v;have m:(tk p T).getD (tk p (t+1)).length 0=(tk p T)[(tk p (t+1)).length]:=by rw [YaP,g];rfl
         rw [m] at u;generalize (tk p T)[(tk p (t+1)).length]=i at g u;obtain⟨E,F,H⟩:=ZF p g;have:=zbl p (show i+1<=t+1 by omega)
         omega
       . rw [if_neg G,A,if_neg #[0]] at c
         cases c
   . -- not too far ahead
     by_cases hz:(tk p (t+1)).length=0
     . have:=q 0 (t+1) #[0] #[0]
       rw [hz];have e:((0:Nat):Int)*b=0:=by simp
       omega
     . obtain⟨i,P,g⟩:=ziC p (s:=t+1) (t:=T) (j:=(tk p (t+1)).length - 1) #[0] #[0]
       have Y:=zbl p (show t+1<=T by omega)
       have c:=C ((tk p (t+1)).length - 1) #[0]
       unfold okV at c;dsimp only at c;rw [if_pos #[0]] at c
       have e:(1+(((tk p (t+1)).length - 1:Nat):Int) - 1).toNat=(tk p (t+1)).length - 1:=#[0]
       have m:(tk p T).getD ((tk p (t+1)).length - 1) 0=i:=by rw [YaP,g];rfl
       rw [e,m,L] at c;have W:1+(((tk p (t+1)).length - 1:Nat):Int)=((tk p (t+1)).length:Int):=#[0]
       rw [W] at c;obtain⟨E,F,H,K⟩:=jZ B (fun s=>decide (((tk p (t+1)).length:Int)*b - r2<=path.getD s 0))
       have I:=of_decide_eq_true (K #[0])
       have u:=q (zD (T+1) (fun s=>decide (((tk p (t+1)).length:Int)*b - r2<=path.getD s 0))) (t+1) #[0] #[0]
       omega
def moP(n:Nat)(p:List Int×List (List Int)):Prop:=p.1.length=n/\∀ k,(∀ i j,i<=j->j<p.2.length->(p.2.getD i []).getD k 0<=(p.2.getD j []).getD k 0)/\∀ i,i<p.2.length->(p.2.getD i []).getD k 0<=p.1.getD k 0
theorem zlf{a:List Int}(e:sh.length=a.length)(c:∀ x∈sh,0<=x)(k):a.getD k 0<=(addL a sh).getD k 0:=by
 have b:=zb6 e.symm
 by_cases h:k<a.length
 . have i:(addL a sh).getD k 0=a[k]+sh[k]'(by omega):=by
    unfold addL
    simp_all
   have g:a.getD k 0=a[k]:=by simp_all
   have j:=c _ (Ya4 (show k<sh.length by omega))
   grind
 grind
theorem znN{α : Type}{l:List α}{x d:α}:(l++[x]).getD i d=if i<l.length then l.getD i d else if i=l.length then x else d:=by
 rw [YaP,YaP]
 by_cases h:i<l.length
 . rw [if_pos h,Yab h]
 . rw [if_neg h]
   by_cases e:i=l.length
   . subst e;simp
   . rw [if_neg e,Wav (by grind)];rfl
theorem zkj(g:sh.length=n)(q:∀ x∈sh,0<=x)(h:moP n p):moP n (zE sh p):=by
 have m:=zlf (a:=p.1) (by rw [g,h.1]) q
 refine⟨by show(addL p.1 sh).length=n;rw [zb6 (by rw [g,h.1]),h.1],fun k=>?_⟩
 obtain⟨u,l⟩:=h.2 k;have c:(zE sh p).2.length=p.2.length+1:=by show(p.2++[_]).length=_;rw [YaS];rfl
 have b:∀ i,i<=p.2.length->((zE sh p).2.getD i []).getD k 0=if i<p.2.length then(p.2.getD i []).getD k 0 else(addL p.1 sh).getD k 0:=fun i e=>by
  show((p.2++[addL p.1 sh]).getD i []).getD k 0=_
  rw [znN]
  by_cases z:i<p.2.length
  . rw [if_pos z,if_pos z]
  . rw [if_neg z,if_neg z,if_pos #[0]]
 have s:=m k;refine⟨fun i j o r=>?_,fun i e=>?_⟩
 . rw [c] at r
   rw [b i #[0],b j #[0]]
   by_cases z:j<p.2.length
   . grind
   . rw [if_neg z]
     by_cases y:i<p.2.length
     . rw [if_pos y];have:=l i y;omega
     . rw [if_neg y];exact Wbz _
 . rw [c] at e
   rw [b i #[0]]
   show _<=(addL p.1 sh).getD k 0
   by_cases y:i<p.2.length
   . rw [if_pos y];have:=l i y;omega
   . rw [if_neg y];exact Wbz _
theorem ze1{n:Nat}{sh:List Int}(b:sh.length=n)(a:∀ x∈sh,0<=x):∀ (m:Nat) {p:List Int×List (List Int)},moP n p->moP n (rep (zE sh) m p)
 | 0,_,h=>h
 | m+1,_,h=>ze1 b a m (zkj b a h)
theorem zgz{n:Nat}{b:Int}(c:0<=b):∀ (l:List Spell) {p:List Int×List (List Int)},(∀ s∈l,okW s.2/\s.2.length=n)->moP n p->moP n (runQ b l p)
 | [],_,_,h=>h
 | s :: l, p, hl, h => zgz c l (fun t e => hl t (YaT _ e)) (ze1 (by rw [zdr]; exact (hl s YaV).2) (fun x i => by
  obtain⟨w,g,rfl⟩:=Ya7.mp i;have a:=(hl s YaV).1;exact Wa5 (YaK (a.2.1 w g).1 c) (by have:=jK a;omega)) _ h)
theorem zbL(q)(k s):(zo q k).getD s 0=(q.getD s []).getD k 0:=by
 unfold zo
 simp
 cases q[s]? <;> simp
theorem zjt(h:okS l)(m:0<=b)(k s t)(a:s<=t)(e:t<(quoB b l).length):(zo (quoB b l) k).getD s 0<=(zo (quoB b l) k).getD t 0:=by
 have g:=zgz m l (p:=(zeros l,[zeros l])) (fun s c=>⟨(h.2.1 s c).2.1,(h.2.1 s c).2.2⟩) ⟨by unfold zeros;simp,fun k=>⟨fun i j _ o=>?_,fun i n=>?_⟩⟩
 . rw [zbL,zbL]
   exact(g.2 k).1 s t a e
 . simp_all
 simp_all
noncomputable def posP(row:List Int)(c:Int)(i:Nat):Bool:=decide (row.getD i 0=c)
theorem zcf(b){c:Nat}(o:c<n)(m:∀ x∈row,0<=x/\x<(n:Int)):∀ t,t<=row.length->(hadN b n (row.take t)).getD c 0=((tk (posP row c) t).length:Int)*b:=by
 intro t
 induction t with
 | zero=>
  intro _;show(Xb n (0)).getD c 0=_;rw [YaP,Yad,if_pos o]
  simp [tk]
 | succ t i=>
  intro p;have a:=#[94]
  have q:=m _ (Ya4 a);have j:posP row c t=decide (row[t]=(c)):=by
   unfold posP;grind
  have g:=i #[94]
  have l:=zbe b n (row.take t);rw [X6 a,zaM,JE,j];unfold had1
  by_cases e:row[t]=(c)
  . have h:row[t].toNat=c:=#[94]
    rw [h,decide_eq_true e,if_pos rfl,YaP,Yas #[94],YaS,Xm,WX,W8,Int.one_mul,<-g]
    rfl
  . have h:row[t].toNat≠c:=#[94]
    grind
noncomputable def posL(row:List Int)(c:Int):List Nat:=tk (posP row c) row.length
noncomputable def lowQ(a b:Int):Rat2:=(a/(Xp a b:Int),b/(Xp a b:Int))
theorem zib(h:0<b)(c:Bits 1100 a)(e:Bits 1100 b):okQ (lowQ a b):=by
 obtain⟨g,_,_,_⟩:=zfM h;exact⟨g,(c.le (Yay _ _)).mono #[1],(e.le (Yay _ _)).mono #[1]⟩
theorem zkR(c:0<b)(h:0<=a)(j:a<=10*b):inQ (lowQ a b):=by
 obtain⟨l,m,e,g⟩:=zfM c;have i:=zg3 (a:=a) c;refine⟨Wa5 h #[0],?_⟩
 show a/(Xp a b)<=10*(b/(Xp a b))
 refine YaF ?_ i
 rw [Wz,e,g];exact j
theorem JF{α : Type}[DecidableEq α]:∀ {L M:List α},L.Nodup->(∀ x∈L,x∈M)->L.length<=M.length
 | [],_,_,_=>Wby _
 | a :: L, M, nd, h => by
  have:=JF (YaB.mp nd).2 fun x c=>by
   have b:x≠a:=fun e=>(YaB.mp nd).1 (e ▸ c)
   exact(List.mem_erase_of_ne b).mpr (h x (YaT _ c))
  grind
noncomputable def cnt(row:List Int)(c:Int):Int:=((row.filter fun x=>decide (x=c)).length:Int)
theorem zmt(c):cnt [] c=0:=rfl
theorem zhU(r)(x c):cnt (r++[x]) c=cnt r c+if x=c then 1 else 0:=by
 unfold cnt
 by_cases e:x=c
 . simp [e]
 . simp [e]
theorem zjD(r s)(c):cnt r c<=cnt (r++s) c:=by
 unfold cnt;rw [WaG,YaS];omega
theorem zl8(r:List Int)(h:i<=j)(c):cnt (r.take i) c<=cnt (r.take j) c:=by
 have:=by
  have:=List.take_append_drop i (r.take j);rw [List.take_take,Nat.min_eq_left h] at this;exact this.symm
 rw [this];exact zjD _ _ _
theorem zjd(h:k<r.length):r.take (k+1)=r.take k++[r.getD k 0]:=by
 simp_all
theorem zaH(h:k<r.length)(c):cnt (r.take (k+1)) c=cnt (r.take k) c+if r.getD k 0=c then 1 else 0:=by
 rw [zjd h,zhU]
noncomputable def keyR(row:List Int)(k:Nat):Int×Int:=(row.getD k 0,cnt (row.take (k+1)) (row.getD k 0))
noncomputable def keyW(v:Win):Int×Int:=(v.1,v.2.1)
def Jx(t:Int):Option Int->Prop
 | none=>True
 | some x=>t<=x
def Jq(V:List Win)(row:List Int):Prop:=
 (∀ k,k<row.length->∃ v∈V,keyW v=keyR row k/\v.2.2.1<=(k:Int)+1/\Jx ((k:Int)+1) v.2.2.2)/\∀ v∈V,v.2.2.2≠none->v.2.1<=cnt row v.1
theorem zbM(a:j<row.length)(h:i<j):keyR row i≠keyR row j:=fun e=>by
 have b:row.getD i 0=row.getD j 0:=congrArg Wo e;have c:cnt _ _=cnt _ _:=congrArg WZ e;rw [b,zaH a] at c;have:=zl8 row (show i+1<=j by lia) (row.getD j 0)
 lia
theorem zc7{row:List Int}{c:Int}:∀ (n:Nat),n<=row.length->∀ j:Int,1<=j->j<=cnt (row.take n) c->∃ k,k<n/\keyR row k=(c,j)
 | 0,_,j,h1,h2=>by rw [Ub,zmt] at h2;lia
 | n + 1, hn, j, h1, h2 => by
  have g:=zaH (r:=row) (k:=n) #[94] c
  by_cases a:j<=cnt (row.take n) c
  . obtain⟨k,b,e⟩:=zc7 n #[94] j h1 a
    grind
  . by_cases h:row.getD n 0=c
    . refine⟨n,#[94],?_⟩
      unfold keyR
      grind
    . lia
noncomputable def kl(T:Int)(v:Win):Int:=v.2.2.2.getD (T+1)
structure OkVs(T:Int)(V:List Win):Prop where
 nd:(V.map keyW).Nodup
 one:∀ v∈V,1<=v.2.1/\1<=v.2.2.1
 pre:∀ v∈V,∀ i,1<=i->i<v.2.1->∃ u∈V,keyW u=(v.1,i)
 ord:∀ u∈V,∀ v∈V,u.1=v.1->u.2.1<v.2.1->u.2.2.1<=v.2.2.1/\kl T u<=kl T v
 top:∀ v∈V,∀ x,v.2.2.2=some x->x<=T
theorem za7{V:List Win}(h:(V.map keyW).Nodup){u v:Win}(b:u∈V)(c:v∈V)(e:keyW u=keyW v):u=v:=by
 induction V with
 | nil=>cases b
 | cons a r g=>
  grind
def IsWs(l:List Spell)(bs:List (Rat2×Rat2))(W:List (List Win)):Prop:=W.length=many l/\∀ k,k<many l->IsW (quo l).length k (winB (bot l) (zo (quo l) k) ((zB (bot l) bs).getD k (0,0))) 1 (W.getD k [])
def kp1(b:Int)(n:Nat)(q:List (List Int))(row:List Int)(t k:Nat)(p:Rat2×Rat2):Prop:=-(ldF b n q row t k)*p.1.2<=p.1.1*b/\ldF b n q row t k*p.2.2<=p.2.1*b
def kpP(b:Int)(n:Nat)(q:List (List Int))(row:List Int)(bs:List (Rat2×Rat2)):Prop:=∀ t,t<row.length->∀ (k:Nat) (p:Rat2×Rat2),bs[k]?=some p->kp1 b n q row t k p
theorem zfQ(a:1<=n){p q:Nat->Bool}(h:∀ t,q t=true->p t=true):zD n p<=zD n q:=by
 obtain⟨c,g,_,b⟩:=jZ a q
 by_cases z:zD n q<n
 . exact zd4 a c (h _ (b z))
 . obtain⟨_,e,_,_⟩:=jZ a p
   lia
theorem zcU{j:Int}(a:path.length=T+1):(winB b path room j).2.getD ((T:Int)+1)=((zD (T+1) (fun t=>decide ((j - 1)*b+room.1+1<=path.getD t 0)):Nat):Int):=by
 unfold winB winP;rw [a]
 split
 . simp_all
 . rfl
theorem IsWs.get(h:IsWs l bs W){w:Win}(a:w∈W.flatten):∃ k,k<many l/\∃ i:Nat,i<(W.getD k []).length/\w=((k:Int),1+(i:Int),(winB (bot l) (zo (quo l) k) ((zB (bot l) bs).getD k (0,0)) (1+(i:Int))).1,(winB (bot l) (zo (quo l) k) ((zB (bot l) bs).getD k (0,0)) (1+(i:Int))).2):=by
 obtain⟨k,b,a⟩:=zhL a;rw [h.1] at b;obtain⟨i,c,e⟩:=Yam a;have:=(h.2 k b).at c;rw [YaQ c,e] at this;exact⟨k,b,i,c,Wa3 this⟩
theorem IsWs.has(h:IsWs l bs W)(a:k<many l)(b:i<(W.getD k []).length):((k:Int),1+(i:Int),(winB (bot l) (zo (quo l) k) ((zB (bot l) bs).getD k (0,0)) (1+(i:Int))).1,(winB (bot l) (zo (quo l) k) ((zB (bot l) bs).getD k (0,0)) (1+(i:Int))).2)∈W.flatten:=
 zhl (by rw [h.1];exact a) (Yah ((h.2 k a).at b))
theorem zc5(w:okS l)(h:IsWs l bs W):OkVs (tot l) W.flatten:=by
 have Z:=zby w;have a0:=jM fun s hs=>(w.2.1 s hs).1
 have a3:=zbs w;obtain⟨T,hT⟩:∃ T:Nat,tot l=(T:Int):=⟨(tot l).toNat,#[94]⟩
 have a:∀ k,(zo (quo l) k).length=T+1:=fun k=>by unfold zo;rw [YaR];lia
 have M:1<=T+1:=#[94]
 refine⟨?_,fun v r=>?_,fun v r i h1 N=>?_,fun u R v r e G=>?_,fun v r x g=>?_⟩
 . rw [Wae,WaO,List.pairwise_flatten]
   refine⟨fun ws K=>?_,?_⟩
   . obtain⟨k,c,e⟩:=Yam K
     have C:k<many l:=by rw [<-h.1];exact c
     have A:=h.2 k C;have I:W.getD k []=ws:=by rw [YaP,YaQ c];exact e
     rw [I] at A;rw [YN];intro i j B H J z;have O:=A.at B;have P:=A.at H;rw [YaQ B] at O;rw [YaQ H] at P;rw [Wa3 O,Wa3 P] at z;have L:=congrArg WZ z;have L:(1+(i:Int))=1+(j:Int):=L
     lia
   . rw [YN]
     intro i j B H J x g y hy z;have m:∀ (k:Nat) (c:k<W.length) (x:Win),x∈W[k]->x.1=(k:Int):=fun k c x g=>by
      have I:W.getD k []=W[k]:=by rw [YaP,YaQ c];rfl
      obtain⟨j,_,rfl⟩:=(h.2 k (by rw [<-h.1];exact c)).mem (by rw [I];exact g)
      rfl
     have Y:x.1=y.1:=congrArg (fun p:Int×Int=>p.1) z
     rw [m i B x g,m j H y hy] at Y
     lia
 . obtain⟨k,c,i,B,rfl⟩:=h.get r
   refine⟨by show 1<=1+(i:Int);lia,?_⟩
   show 1<=(winB _ _ _ _).1
   unfold winB winP;have:=(jZ (n:=(zo (quo l) k).length) (by rw [a];lia) fun t=>decide ((1+(i:Int))*bot l - ((zB (bot l) bs).getD k (0,0)).2<=(zo (quo l) k).getD t 0)).1
   dsimp only
   lia
 . obtain⟨k,c,m,Q,rfl⟩:=h.get r
   have N:i<1+(m:Int):=N;refine⟨_,h.has c (i:=(i - 1).toNat) #[94],?_⟩
   show((k:Int),1+(((i - 1).toNat:Nat):Int))=((k:Int),i)
   rw [show 1+(((i - 1).toNat:Nat):Int)=i by lia]
 . obtain⟨k,c,m,Q,rfl⟩:=h.get R
   obtain⟨U,C,F,S,rfl⟩:=h.get r;obtain rfl:k=U:=#[94]
   have G:1+(m:Int)<1+(F:Int):=G;have o:∀ x y:Int,x<=y->x*bot l<=y*bot l:=fun x y h=>Ybe h #[94]
   refine⟨?_,?_⟩
   . unfold winB winP
     dsimp only;have:=zfQ (n:=(zo (quo l) k).length) (by rw [a];lia) (p:=fun t=>decide ((1+(m:Int))*bot l - ((zB (bot l) bs).getD k (0,0)).2<=(zo (quo l) k).getD t 0)) (q:=fun t=>decide ((1+(F:Int))*bot l - ((zB (bot l) bs).getD k (0,0)).2<=(zo (quo l) k).getD t 0)) fun t E=>by
      have E:=of_decide_eq_true E;have:=o (1+m) (1+F) #[94]
      exact decide_eq_true #[94]
     lia
   . unfold kl
     dsimp only;rw [hT,zcU (a k),zcU (a k)];have:=zfQ (n:=T+1) M (p:=fun t=>decide ((1+(m:Int) - 1)*bot l+((zB (bot l) bs).getD k (0,0)).1+1<=(zo (quo l) k).getD t 0)) (q:=fun t=>decide ((1+(F:Int) - 1)*bot l+((zB (bot l) bs).getD k (0,0)).1+1<=(zo (quo l) k).getD t 0)) fun t E=>by
      have E:=of_decide_eq_true E;have:=o (1+m - 1) (1+F - 1) #[94]
      exact decide_eq_true #[94]
     lia
 . obtain⟨k,c,i,B,rfl⟩:=h.get r
   have e:=zcU (b:=bot l) (room:=(zB (bot l) bs).getD k (0,0)) (j:=1+(i:Int)) (a k);rw [g] at e;have e:x=_:=e;unfold winB winP at g;rw [a] at g;dsimp only at g;have:=(jZ M fun t=>decide ((1+(i:Int) - 1)*bot l+((zB (bot l) bs).getD k (0,0)).1+1<=(zo (quo l) k).getD t 0)).2.1
   split at g
   . cases g
   . rename_i X
     lia
theorem zkB(m:okS l)(M:okB (many l) bs)(S:∀ p∈bs,okQ p.1/\okQ p.2)(o:z8 (many l) (tot l).toNat row)(a0:W.length=many l)(L:∀ k,k<many l->IsW (quo l).length k (winB (bot l) (zo (quo l) k) ((zB (bot l) bs).getD k (0,0))) 1 (W.getD k [])) :
 zcK (zbg (bot l) (many l) (quo l) row row.length) (zB (bot l) bs)↔∀ k,k<many l->((∀ w∈W.getD k [],okV (posL row k) w)/\(posL row k).length<=(W.getD k []).length):=by
 have P:=zbs m;have T:=zby m;have X:=jM fun s U=>(m.2.1 s U).1
 have Y:row.length=(tot l).toNat:=o.1;have E:(quo l).length=row.length+1:=#[0]
 have B:∀ r∈quo l,r.length=many l:=fun r O=>za8 m (b:=bot l) O
 have I:∀ k,(zo (quo l) k).length=row.length+1:=fun k=>by unfold zo;rw [YaR,E]
 have c:∀ k,k<many l->(zB (bot l) bs)[k]?=some ((zB (bot l) bs).getD k (0,0))/\0<=((zB (bot l) bs).getD k (0,0)).1/\0<=((zB (bot l) bs).getD k (0,0)).2:=fun k g=>by
  have u:k<bs.length:=by rw [M.1];exact g
  have e:(zB (bot l) bs)[k]?=some (jC (bot l) bs[k].1,jC (bot l) bs[k].2):=by unfold zB;rw [Ya0,YaQ u];rfl
  have R:(zB (bot l) bs).getD k (0,0)=(jC (bot l) bs[k].1,jC (bot l) bs[k].2):=by rw [YaP,e];rfl
  rw [R];have z:=M.2 bs[k] (Ya4 u);have y:=S bs[k] (Ya4 u);exact⟨e,Wa5 (YaK z.1.1 #[0]) (by have:=y.1.1;omega),Wa5 (YaK z.2.1 #[0]) (by have:=y.2.1;omega)⟩
 have v:∀ k,0<=(zo (quo l) k).getD 0 0:=fun k=>by
  obtain⟨r,O⟩:=znG (bot l) l;have:quo l=quoB (bot l) l:=rfl;rw [this,zbL,O];show 0<=(zeros l).getD k 0;unfold zeros;rw [YaP,Yad]
  split<;>simp
 have j:=fun(k:Nat) (g:k<many l)=>zke P (I k) (fun s t J A=>zjt m (b:=bot l) #[0] k s t J (by show t<(quo l).length;omega)) (v k) (c k g).2.1 (c k g).2.2 (posP row k) (ws:=W.getD k []) (k:=k) (by rw [<-E];exact L k g)
 have n:∀ (t k:Nat),t<row.length->k<many l->(jw (bot l) (many l) (quo l) row t)[k]?=some (((tk (posP row k) (t+1)).length:Int)*bot l - (zo (quo l) k).getD (t+1) 0):=fun t k A g=>by
  have G:(quo l).getD (t+1) []∈quo l:=by
   rw [YaP,YaQ #[0]];exact Ya4 _
  have h2:=B _ G;have h3:=zbe (bot l) (many l) (row.take (t+1));unfold jw subL;have Z:((hadN (bot l) (many l) (row.take (t+1))).zip ((quo l).getD (t+1) []))[k]?=some ((hadN (bot l) (many l) (row.take (t+1)))[k]'(by omega),((quo l).getD (t+1) [])[k]'(by omega)):=List.getElem?_zip_eq_some.mpr ⟨YaQ #[0],YaQ #[0]⟩
  rw [Ya0,Z,<-zcf (bot l) g o.2 (t+1) #[0],zbL]
  simp [YaP,YaQ (show k<(hadN (bot l) (many l) (row.take (t+1))).length by omega),YaQ (show t+1<(quo l).length by omega)]
  have N:k<((quo l)[t+1]'(by omega)).length:=by rw [B _ (Ya4 _)];exact g
  have e:=YaQ N;rw [e]
  rfl
 have q:zcK (zbg (bot l) (many l) (quo l) row row.length) (zB (bot l) bs)↔∀ k,k<many l->((∀ w∈W.getD k [],okV (tk (posP row k) row.length) w)/\(tk (posP row k) row.length).length<=(W.getD k []).length):=by
  constructor
  . intro h k g
    refine(j k g).mp fun t A=>?_
    exact h _ (by unfold zbg;exact Ya7.mpr ⟨t,Yba.mpr A,rfl⟩) k _ _ (n t k A g) (c k g).1
  . intro h ld C i x p Q K
    unfold zbg at C;obtain⟨t,A,rfl⟩:=Ya7.mp C;have F:=Yba.mp A;have H:i<many l:=by
     have:=(Ya8.mp K).1;unfold zB at this;rw [YaR,M.1] at this;exact this
    rw [n t i F H] at Q;rw [(c i H).1] at K;cases Q;cases K;exact(j i H).mpr (h i H) t F
 exact q
theorem zbJ(row:List Int)(c:Int):∀ m,m<=row.length->cnt (row.take m) c=((tk (posP row c) m).length:Int)
 | 0,_=>by simp [cnt,tk]
 | m + 1, h => by
  rw [zaH #[0],zbJ row c m #[0],JE,YaS]
  unfold posP
  grind
theorem zkU(p)(c:t<T)(a:p t=true):(tk p T)[(tk p t).length]?=some t:=by
 obtain⟨r,b,_⟩:=zcw p (show t+1<=T by omega)
 rw [b,JE,if_pos a,Yag,Yae (YaY _),Wbs]
 rfl
theorem zlQ(K:okS l)(h:IsWs l bs W)(I:z8 (many l) (tot l).toNat row):Jq W.flatten row↔∀ k,k<many l->((∀ w∈W.getD k [],okV (posL row k) w)/\(posL row k).length<=(W.getD k []).length):=by
 have X:=zc5 K h;have p:=fun c=>by
  have:=zbJ row c row.length (YaY _);rw [YaH] at this;exact this
 have U:∀ (k:Nat),k<many l->∀ w∈W.getD k [],∃ j:Int,1<=j/\w=((k:Int),j,(winB (bot l) (zo (quo l) k) ((zB (bot l) bs).getD k (0,0)) j).1,(winB (bot l) (zo (quo l) k) ((zB (bot l) bs).getD k (0,0)) j).2):=fun k m w B=>(h.2 k m).mem B
 have F:∀ (c:Int) (j:Int),1<=j->j<=((posL row c).length:Int)->∃ t,t<row.length/\(posL row c)[(j - 1).toNat]?=some t/\keyR row t=(c,j):=fun c j S R=>by
  have N:(j - 1).toNat<(posL row c).length:=#[0]
  have u:=YaQ N;generalize (posL row c)[(j - 1).toNat]=t at u;unfold posL at u;obtain⟨Y,a2,T⟩:=ZF (posP row c) u;refine⟨t,Y,u,?_⟩;have A:posP row c t=true:=by
   cases z:posP row c t with
   | true=>rfl
   | false=>rw [JE,z,if_neg #[1],Yao] at T;omega
  have A:row.getD t 0=c:=of_decide_eq_true A;unfold keyR;rw [A,zbJ row c (t+1) #[0],T]
  congr 1
  omega
 constructor
 . intro M k m
   have O:∀ j:Int,∀ v∈W.flatten,keyW v=((k:Int),j)->∃ i:Nat,i<(W.getD k []).length/\j=1+(i:Int)/\v∈W.getD k []:=fun j v s e=>by
    obtain⟨J,L,i,q,rfl⟩:=h.get s;have e1:(J:Int)=(k:Int):=congrArg Wo e;have P:1+(i:Int)=j:=congrArg WZ e;obtain rfl:J=k:=#[0]
    exact⟨i,q,P.symm,Yah ((h.2 J L).at q)⟩
   refine⟨fun w B=>?_,?_⟩
   . obtain⟨j,hj,rfl⟩:=U k m w B
     have H:_∈W.flatten:=zhl (by rw [h.1];exact m) B
     unfold okV;dsimp only
     by_cases r:j<=((posL row k).length:Int)
     . rw [if_pos r]
       obtain⟨t,y,u,g⟩:=F k j hj r;obtain⟨v,s,e,o,C⟩:=M.1 t y;have:v=_:=za7 X.nd s H (e.trans g);rw [this] at o C;have Z:(posL row k).getD (j - 1).toNat 0=t:=by rw [YaP,u];rfl
       rw [Z];dsimp only at o C;refine⟨#[0],fun x Q=>?_⟩
       rw [Q] at C;have C:(t:Int)+1<=x:=C
       omega
     . rw [if_neg r]
       cases hl:(winB (bot l) (zo (quo l) k) ((zB (bot l) bs).getD k (0,0)) j).2 with
       | none=>rfl
       | some x=>
        have:=M.2 _ H (by dsimp only;rw [hl];nofun)
        dsimp only at this;rw [p] at this;exact absurd this r
   . by_cases z:(posL row k).length=0
     . omega
     . obtain⟨t,y,u,g⟩:=F k ((posL row k).length:Int) #[0] (Wbz _)
       obtain⟨v,s,e,_⟩:=M.1 t y;obtain⟨i,q,P,_⟩:=O _ v s (e.trans g)
       omega
 . intro r
   refine⟨fun t y=>?_,fun v s E=>?_⟩
   . have Q:=I.2 row[t] (Ya4 y)
     have G:row.getD t 0=row[t]:=by rw [YaP,YaQ y];rfl
     obtain⟨k,m⟩:∃ k:Nat,row[t]=(k:Int):=⟨row[t].toNat,#[0]⟩
     have n:k<many l:=#[0]
     have A:posP row k t=true:=decide_eq_true (by rw [G,m])
     have S:(tk (posP row k) (t+1)).length=(tk (posP row k) t).length+1:=by rw [JE,if_pos A,YaS];rfl
     have R:=zbl (posP row k) (show t+1<=row.length by omega)
     have h3:(posL row k).length<=(W.getD k []).length:=(r k n).2;have h4:(tk (posP row k) (t+1)).length<=(posL row k).length:=R;have q:(tk (posP row k) t).length<(W.getD k []).length:=#[0]
     have B:=(h.2 k n).at q;have b:=(r k n).1 _ (Yah B);unfold okV at b;dsimp only at b;rw [if_pos #[0]] at b
     have ix:(posL row k).getD (1+((tk (posP row k) t).length:Int) - 1).toNat 0=t:=by
      rw [show(1+((tk (posP row k) t).length:Int) - 1).toNat=(tk (posP row k) t).length by omega,YaP]
      unfold posL;rw [zkU (posP row k) y A];rfl
     rw [ix] at b;refine⟨_,h.has n q,?_,by have:=b.1;omega,?_⟩
     . unfold keyR keyW
       dsimp only;rw [G,m,zbJ row k (t+1) #[0],S]
       congr 1
       omega
     . dsimp only
       cases hl:(winB (bot l) (zo (quo l) k) ((zB (bot l) bs).getD k (0,0)) (1+((tk (posP row k) t).length:Int))).2 with
       | none=>trivial
       | some x=>
        have:=b.2 x hl;show(t:Int)+1<=x
        omega
   . obtain⟨k,m,i,q,rfl⟩:=h.get s
     have b:=(r k m).1 _ (Yah ((h.2 k m).at q));unfold okV at b;dsimp only at b E ⊢;rw [p]
     by_cases z:1+(i:Int)<=((posL row k).length:Int)
     . exact z
     . rw [if_neg z] at b
       exact absurd b E
theorem zjn{c:Int}{row:List Int}{bs:List (Rat2×Rat2)}(B:0<b)(A:0<c)(e:q.map (Yg (· * c))=q'.map (Yg (· * b)))(I:bs.length=n)(E:∀ p∈bs,okQ p.1/\okQ p.2)(L:∀ t,t<row.length->(jw b n q row t).length=n) :
 zcK (zbg b n q row row.length) (zB b bs)↔kpP c n q' row bs:=by
 have l:∀ k p,bs[k]?=some p->∀ t,t<row.length->((-(jC b p.1)<=ldF b n q row t k↔-(ldF c n q' row t k)*p.1.2<=p.1.1*c)/\(ldF b n q row t k<=jC b p.2↔ldF c n q' row t k*p.2.2<=p.2.1*c)):=fun k p a t j=>by
  obtain⟨C,F⟩:=E p (Yah a);have z:=ziQ (n:=n) (row:=row) e t k;have G:=zfh (x:=-(ldF b n q row t k)) (v:=p.1.1) B A C.1 (by rw [UA,UA,z])
  have H:=zfh (v:=p.2.1) B A F.1 z;refine⟨Iff.trans ?_ G,H⟩;unfold jC
  constructor<;>intro h<;>lia
 constructor
 . intro h t j k p a
   have J:k<n:=by rw [<-I];exact(Ya8.mp a).1
   have u:(jw b n q row t)[k]?=some (ldF b n q row t k):=by
    unfold ldF
    simp_all
   have i:(zB b bs)[k]?=some (jC b p.1,jC b p.2):=by unfold zB;rw [Ya0,a];rfl
   have:=h _ (Ya7.mpr ⟨t,Yba.mpr j,rfl⟩) k _ _ u i;have o:=l k p a t j;exact⟨o.1.mp this.1,o.2.mp this.2⟩
 . intro h K s k x r u i
   obtain⟨t,j,rfl⟩:=Ya7.mp s;have m:=Yba.mp j;unfold zB at i;rw [Ya0] at i;cases a:bs[k]? with
   | none=>rw [a] at i;cases i
   | some p=>
    rw [a] at i;have y:=(Wa3 i).symm;subst y;have w:x=ldF b n q row t k:=by unfold ldF;rw [YaP,u];rfl
    have o:=l k p a t m;have g:=h t m k p a;rw [w];exact⟨o.1.mpr g.1,o.2.mpr g.2⟩
theorem zhZ{row:List Int}(c:∀ x∈row,0<=x/\x<(n:Int))(a:t<=row.length)(b:k<n):0<=(hadN 1 n (row.take t)).getD k 0/\(hadN 1 n (row.take t)).getD k 0<=(t:Int):=by
 rw [zcf 1 b c t a];have:(tk (posP row k) t).length<=t:=by
  have:=Waw (posP row k) (Xe t);rw [YaG] at this;exact this
 omega
theorem zhz(c:∀ x∈row,0<=x/\x<(n:Int))(m:t<row.length)(l:t+1<rows.length)(j:rows[t+1].length=n)(h:i<n):ldF b n rows row t i=(hadN 1 n (row.take (t+1))).getD i 0*b - rows[t+1].getD i 0:=by
 have g:=zbe b n (row.take (t+1));have e:(hadN b n (row.take (t+1))).getD i 0=(hadN 1 n (row.take (t+1))).getD i 0*b:=by
  rw [zcf b h c _ #[0],zcf 1 h c _ #[0],Int.mul_one]
 have a:jw b n rows row t=subL (hadN b n (row.take (t+1))) rows[t+1]:=by
  unfold jw
  simp_all
 unfold ldF;rw [a];unfold subL
 simp_all
theorem atI2{x y z:α}{xs:List α}:atI (x::y::z::xs) 2=some z:=jb (j:=2) rfl
theorem atI3{x y z w:α}{xs:List α}:atI (x::y::z::w::xs) 3=some w:=jb (j:=3) rfl
theorem hu65{A:Around}(a:Room k A):A.units+65<cLine:=by have:=a.un;omega
abbrev Rule:=Str×Int×Int
noncomputable def dRl(r:Rule):D:=.tuple [.str r.1,.int r.2.1,.int r.2.2]
noncomputable def dRs(rs:List Rule):D:=.list (rs.map dRl)
def okRl(T n:Int)(r:Rule):Prop:=(r.1 = "fixed"\/r.1 = "barred")/\(1<=r.2.1/\r.2.1<=T)/\0<=r.2.2/\r.2.2<n
def okRs(T n:Int)(rs:List Rule):Prop:=∀ r∈rs,okRl T n r
def txtR(rs:List Rule):Prop:=∀ r∈rs,Xt (.str r.1)=true
theorem zV(t)(k v a):getM (putM t k v) a=if k=a then some v else getM t a:=by
 unfold putM
 split
 . rename_i h
   induction t with
   | nil=>cases h
   | cons p r b=>
    unfold getM at b ⊢;rw [Ya1,XM,XM]
    by_cases e:p.1=k
    . rw [if_pos e]
      by_cases c:k=a
      . simp_all
      . have g:¬p.1=a:=fun z=>c (e.symm.trans z)
        simp only [g,decide_false]
        by_cases j:(r.any fun p=>decide (p.1=k))=true
        . exact b j
        . rw [if_neg c]
          have i:r.map (fun p=>if p.1=k then(p.1,v) else p)=r:=by
           refine(Yat fun p l=>?_).trans (W9 r)
           grind
          rw [i]
    grind
 . unfold getM
   grind
theorem JQ(h:getM t k=some v):(k,v)∈t:=by
 unfold getM at h;cases e:t.find? _ with
 | none=>rw [e] at h;cases h
 | some r=>
  grind
def InR(x:Int)(A:Nat):Prop:=0<=x/\x<(A:Int)
theorem zao{L:List Int}(a:L.Nodup)(h:∀ x∈L,InR x A):L.length<=A:=by
 have:=JF (M:=(Xe A).map fun i:Nat=>(i:Int)) a fun x b=>by
  obtain⟨c,e⟩:=h x b;exact Ya7.mpr ⟨x.toNat,Yba.mpr #[94],#[94]⟩
 simp_all
structure TbOk(t:Tb)(A B:Nat):Prop where
 nd:(t.map (·.1)).Nodup
 inn:∀ p∈t,InR p.1 A/\InR p.2 B
theorem TbOk.nil(A B):TbOk [] A B:=⟨Wbb,fun p h=>by cases h⟩
theorem TbOk.len(h:TbOk t A B):t.length<=A:=by
 have:=zao h.nd fun x b=>by
  obtain⟨p,a,rfl⟩:=Ya7.mp b;exact(h.inn p a).1
 simp_all
theorem TbOk.get(h:TbOk t A B)(e:getM t k=some v):InR k A/\InR v B:=h.inn _ (JQ e)
theorem zju(t)(k v):(putM t k v).map (·.1)=if k∈t.map (·.1) then t.map (·.1) else t.map (·.1)++[k]:=by
 have a:((t.any fun p=>decide (p.1=k))=true)↔k∈t.map (·.1):=by
  grind
 unfold putM
 by_cases h:k∈t.map (·.1)
 . rw [if_pos (a.mpr h),if_pos h,YaD]
   refine Yat fun p _=>?_
   omega
 grind
theorem TbOk.put(h:TbOk t A B)(i:InR k A)(g:InR v B):TbOk (putM t k v) A B:=by
 refine⟨?_,fun p c=>?_⟩
 . rw [zju]
   split
   . exact h.nd
   . rename_i n
     exact WaK.mpr ⟨h.nd,by simp,fun a j b l z=>n (by grind)⟩
 . unfold putM at c
   split at c
   . obtain⟨q,e,rfl⟩:=Ya7.mp c
     have:=h.inn q e
     omega
   . rcases Ya3.mp c with z|z
     . exact h.inn p z
     grind
theorem zkL(h:getM t k=none):(putM t k v).length=t.length+1:=by
 unfold putM;rw [if_neg,YaS]
 . rfl
 . intro z
   obtain⟨p,a,e⟩:=WY.mp z;have e:=of_decide_eq_true e;unfold getM at h;have:(t.find? fun p=>decide (p.1=k)).isSome=true:=WJ.mpr ⟨p,a,decide_eq_true e⟩
   cases y:t.find? _ with
   | none=>rw [y] at this;cases this
   | some r=>simp_all
def Mat(t h:Tb):Prop:=∀ s c,getM t s=some c↔getM h c=some s
def MatB(t h:Tb)(c:Int):Prop:=(∀ s x,x≠c->(getM t s=some x↔getM h x=some s))/\∀ s,getM t s≠some c
theorem MatB.step{c:Int}(m:MatB t h c):(getM t s=none->Mat (putM t s c) (putM h c s))/\∀ c',getM t s=some c'->MatB (putM t s c) (putM h c s) c':=by
 obtain⟨i,g⟩:=m
 constructor
 . intro e a x
   rw [zV,zV]
   grind
 . intro c' e
   refine⟨fun a x b=>?_,fun a z=>?_⟩
   . rw [zV,zV]
     grind
   . rw [zV] at z
     grind
structure Way(Ed:Int->Int->Prop)(ca t:Tb)(r:Int->Nat)(start:Int)(A B:Nat):Prop where
 inn:∀ c s,getM ca c=some s->InR s A/\InR c B
 ed:∀ c s,getM ca c=some s->Ed s c
 back:∀ c s c',getM ca c=some s->getM t s=some c'->∃ s',getM ca c'=some s'/\r s'<r s
 first:∀ c s,getM ca c=some s->getM t s=none->s=start
structure Moved(Ed:Int->Int->Prop)(t h t' h':Tb)(start:Int)(A B:Nat):Prop where
 ed:∀ s c,getM t' s=some c->Ed s c
 mat:Mat t' h'
 ot:TbOk t' A B
 oh:TbOk h' B A
 dt:∀ s,(getM t' s).isSome=true↔(getM t s).isSome=true\/s=start
 dh:∀ c,(getM h c).isSome=true->(getM h' c).isSome=true
structure OnWay(Ed:Int->Int->Prop)(ca t0 h0 t h:Tb)(r:Int->Nat)(c:Int)(A B m:Nat):Prop where
 ed:∀ s c,getM t s=some c->Ed s c
 mat:MatB t h c
 ot:TbOk t A B
 oh:TbOk h B A
 came:∃ s,getM ca c=some s/\r s=m
 same:∀ s,r s<=m->getM t s=getM t0 s
 dt:∀ s,(getM t s).isSome=true↔(getM t0 s).isSome=true
 dh:∀ c,(getM h0 c).isSome=true->(getM h c).isSome=true
theorem OnWay.step{Ed:Int->Int->Prop}{ca t0 h0 t h:Tb}{r:Int->Nat}{c start:Int}{A B m:Nat}(w:Way Ed ca t0 r start A B)(o:OnWay Ed ca t0 h0 t h r c A B m){s:Int}(n:getM ca c=some s):(getM t s=none->Moved Ed t0 h0 (putM t s c) (putM h c s) start A B)/\∀ c',getM t s=some c'->∃ m',m'<m/\OnWay Ed ca t0 h0 (putM t s c) (putM h c s) r c' A B m':=by
 have g:∀ a c',getM _ a=some c'->Ed a c':=fun a c' e=>by
  rw [zV] at e
  split at e
  . rename_i z
    rw [<-Wa3 e,<-z];exact w.ed c s n
  . exact o.ed a c' e
 obtain⟨j,l⟩:=w.inn c s n;have q:r s=m:=by
  obtain⟨a,e,h⟩:=o.came
  simp_all
 have p:=o.same s #[94]
 have i:∀ x,(getM h0 x).isSome=true->(getM (putM h c s) x).isSome=true:=fun x b=>by
  rw [zV]
  split
  . rfl
  . exact o.dh x b
 constructor
 . intro e
   have v:=w.first c s n (p ▸ e);refine⟨g,(o.mat.step).1 e,o.ot.put j l,o.oh.put l j,fun x=>?_,i⟩
   rw [zV]
   by_cases b:s=x
   . grind
   . rw [if_neg b,o.dt x]
     grind
 . intro c' e
   obtain⟨a,u,y⟩:=w.back c s c' n (p ▸ e);refine⟨r a,#[94],g,(o.mat.step).2 c' e,o.ot.put j l,o.oh.put l j,⟨a,u,rfl⟩,fun x b=>?_,fun x=>?_,i⟩
   . have:s≠x:=fun z=>by grind
     rw [zV,if_neg this];exact o.same x #[94]
   . rw [zV]
     by_cases b:s=x
     . simp_all
     . rw [if_neg b];exact o.dt x
structure Rea(Ed:Int->Int->Prop)(start:Int)(t h ca:Tb)(R:List Int)(A B:Nat):Prop where
 ed:∀ c s,getM ca c=some s->Ed s c
 nd:R.Nodup
 hd:R[0]?=some start
 inn:∀ x∈R,InR x A
 oc:TbOk ca B A
 len:R.length=ca.length+1
 from_:∀ c s,getM ca c=some s->s∈R
 by_:∀ (i:Nat) (x:Int),R[i]?=some x->i=0\/∃ c s,∃ j:Nat,getM t x=some c/\getM ca c=some s/\R[j]?=some s/\j<i
theorem Rea.start{start:Int}(b:InR start A):Rea Ed start t h [] [start] A B:=by
 refine⟨fun c s e=>(by cases e),by simp,rfl,fun x a=>by simp_all,TbOk.nil B A,rfl,fun c s e=>(by cases e),fun i x e=>?_⟩
 cases i with
 | zero=>exact .inl rfl
 | succ i=>simp at e
theorem Rea.more{start:Int}(r:Rea Ed start t h ca R A B)(m:Mat t h)(S:getM t start=none){c:Int}(q:s∈R)(O:Ed s c)(K:InR c B)(w:getM ca c=none)(v:getM h c=some x)(E:TbOk h B A):Rea Ed start t h (putM ca c s) (R++[x]) A B:=by
 have F:=(m x c).mpr v;have J:=(E.get v).2;have l:∀ d,d≠c->getM (putM ca c s) d=getM ca d:=fun d N=>by rw [zV,if_neg (WbA N)]
 have G:x∉R:=fun z=>by
  obtain⟨i,o,e⟩:=Yam z;have e:R[i]?=some x:=by rw [YaQ o,e]
  rcases r.by_ i x e with y|⟨d,g,j,C,n,_⟩
  . subst y
    rw [r.hd] at e
    grind
  grind
 refine⟨fun d g e=>?_,WaK.mpr ⟨r.nd,by simp,fun a Q b P z=>G (by simp_all)⟩,?_,fun y M=>?_,r.oc.put K (r.inn s q),?_,fun d g e=>?_,fun i y e=>?_⟩
 . rw [zV] at e
   split at e
   . simp_all
   . exact r.ed d g e
 . rw [Yab (by have:=r.len;lia)];exact r.hd
 . rcases Ya3.mp M with z|z
   . exact r.inn y z
   . rw [Ya6.mp z];exact J
 . rw [zkL w,YaS,r.len];rfl
 . rw [zV] at e
   split at e
   . exact Yai _ (by rw [<-Wa3 e];exact q)
   . exact Yai _ (r.from_ d g e)
 . by_cases o:i<R.length
   . rw [Yab o] at e
     rcases r.by_ i y e with z|⟨d,g,j,C,n,H,L⟩
     . exact .inl z
     . refine .inr ⟨d,g,j,C,?_,?_,L⟩
       . rw [l d fun z=>by rw [z,w] at n;cases n];exact n
       . rw [Yab #[94]];exact H
   . have p:i=R.length:=by
      have:=(Ya8.mp e).1;rw [YaS,Xm] at this
      lia
     subst p;rw [Yae (YaY _),Wbs] at e;have e:x=y:=Wa3 e;subst e;obtain⟨j,u,I⟩:=Yam q;refine .inr ⟨c,s,j,F,by rw [zV,if_pos rfl],?_,u⟩
     rw [Yab u,YaQ u,I]
theorem Rea.seen{start:Int}(r:Rea Ed start t h ca R A B)(H:getM t start=none){c:Int}(L:s∈R)(I:Ed s c)(K:InR c B)(G:getM ca c=none):Way Ed (putM ca c s) t (fun x=>R.idxOf x) start A B:=by
 have b:∀ d a,getM (putM ca c s) d=some a->a∈R/\InR d B:=fun d a e=>by
  rw [zV] at e
  split at e
  . simp_all
  . exact⟨r.from_ d a e,(r.oc.get e).1⟩
 have C:∀ (i:Nat) x,R[i]?=some x->R.idxOf x=i:=fun i x e=>by
  obtain⟨o,e⟩:=Ya8.mp e;rw [<-e];exact r.nd.idxOf_getElem i o
 have v:∀ x∈R,getM t x≠none->∃ d a j,getM t x=some d/\getM ca d=some a/\R[j]?=some a/\j<R.idxOf x:=fun x F n=>by
  obtain⟨i,o,e⟩:=Yam F;have e:R[i]?=some x:=by rw [YaQ o,e]
  rcases r.by_ i x e with y|⟨d,a,j,l,m,w,u⟩
  . subst y
    rw [r.hd] at e;rw [<-Wa3 e] at n;exact absurd H n
  . exact⟨d,a,j,l,m,w,by rw [C i x e];exact u⟩
 refine⟨fun d a e=>⟨r.inn a (b d a e).1,(b d a e).2⟩,fun d a e=>?_,fun d a J e q=>?_,fun d a e q=>?_⟩
 . rw [zV] at e
   split at e
   . simp_all
   . exact r.ed d a e
 . obtain⟨E,g,j,l,m,w,u⟩:=v a (b d a e).1 (by rw [q];simp)
   rw [q] at l;rw [<-Wa3 l] at m;refine⟨g,?_,?_⟩
   . rw [zV,if_neg fun z=>by rw [<-z,G] at m;cases m];exact m
   . rw [C j g w];exact u
 . rcases Wbt _ with z|z
   . exact z
   . exfalso
     obtain⟨i,o,p⟩:=Yam (b d a e).1;have p:R[i]?=some a:=by simp_all
     rcases r.by_ i a p with y|⟨E,g,j,l,_⟩
     . subst y
       rw [r.hd] at p;exact z (Wa3 p).symm
     . rw [q] at l;cases l
theorem Mat.free(m:Mat t h){c:Int}(e:getM h c=none):MatB t h c:=⟨fun s x _=>m s x,fun s z=>by rw [(m s c).mp z] at e;cases e⟩
theorem Rea.seeks{start:Int}(r:Rea Ed start t h ca R A B):∀ x∈R,x=start\/(getM t x).isSome=true:=fun x a=>by
 obtain⟨i,c,e⟩:=Yam a;have e:R[i]?=some x:=by simp_all
 rcases r.by_ i x e with y|⟨d,g,j,b,_⟩
 . subst y
   rw [r.hd] at e
   lia
 simp_all
theorem zaZ(h:(getM t k).isSome=true):k∈t.map (·.1):=by
 obtain⟨v,a⟩:=Wah.mp h;exact Ya7.mpr ⟨_,JQ a,rfl⟩
theorem zgt(k j:List Key)(d:D):∀ ds:List (List Key×D),getT (ds.map fun kv=>if kv.1=k then(kv.1,d) else kv) j=if j=k then(if(ds.any fun kv=>decide (kv.1=k))=true then some d else none) else getT ds j
 | []=>by split<;>rfl
 | (k', d') :: ds => by
  have b:=zgt k j d ds;rw [Ya1,Ww]
  by_cases e:k'=k
  . rw [if_pos e]
    by_cases a:j=k
    . have:=e.trans a.symm
      subst this;rw [Jv]
      simp [e]
    . rw [if_neg a,j8 (fun z=>a (z.symm.trans e)),j8 (fun z=>a (z.symm.trans e)),b,if_neg a]
  . rw [if_neg e]
    by_cases a:j=k
    . rw [if_pos a] at b ⊢
      rw [j8 (fun z=>e (z.trans a)),b,decide_eq_false e,Wbh]
    . rw [if_neg a] at b ⊢
      by_cases c:k'=j
      . subst c;rw [Jv,Jv]
      . rw [j8 c,j8 c,b]
theorem zfx(k j:List Key)(d:D):∀ ds:List (List Key×D),(ds.any fun kv=>decide (kv.1=k))=false->getT (ds++[(k,d)]) j=if j=k then some d else getT ds j
 | [], _ => by
  by_cases a:j=k
  . subst a;rw [if_pos rfl];exact Jv
  . rw [if_neg a,Xc,j8 (fun z=>a z.symm)]
 | (k', d') :: ds, h => by
  rw [Ww,Bool.or_eq_false_iff] at h;have c:=zfx k j d ds h.2;have e:=of_decide_eq_false h.1;rw [Xf]
  by_cases b:k'=j
  . subst b;rw [Jv,Jv,if_neg e]
  . rw [j8 b,j8 b,c]
theorem zjy(a)(k j)(d):getT (putT a k d) j=if j=k then some d else getT a j:=by
 unfold putT
 split
 . rename_i h;rw [zgt,if_pos h]
 . rename_i h;exact zfx k j d a (Bool.eq_false_iff.mpr h)
theorem ziM{g:TG3}{P:Env3->Prop}(h:∀ N:Env3->Prop,(∀ ρ',P ρ'->N ρ')->g f d ρ N):g f d ρ P:=h P fun _ z=>z
theorem Mat.symm{t h:Tb}(m:Mat t h):Mat h t:=fun s c=>(m c s).symm
theorem zix(h:(ds.all fun p=>zt p.2)=true)(b:zt d=true):((putT ds k d).all fun p=>zt p.2)=true:=by
 rw [WaX] at h ⊢;intro p a;unfold putT at a
 grind
theorem ziy(a)(k)(d):(putT a k d).length<=a.length+1:=by
 unfold putT
 split
 . grind
 . simp
theorem zmM:Xt (.tuple [.str "fixed", .str "barred"])=true:=#[3]
theorem zgs(x):((([YU "fixed", YU "barred"]:List D).any fun y=>XL y (.str x))=false)↔¬(x = "fixed"\/x = "barred"):=by
 have e:∀ a, XL (.str a) (.str x)=decide (x=a):=fun a=>by
  by_cases h:x=a
  . subst h;simp [XL]
  . rw [decide_eq_false h]
    have:¬a=x:=fun z=>h z.symm
    simp [XL,this]
 grind
theorem zeI(V:List Win):jQ (V.map dW)=(Xe V.length).map fun i=>XI [Xa (i:Nat),dW (V.getD i (0,0,0,none))]:=by
 unfold jQ
 simp_all
theorem zi5(ch:List (List Int)):jQ (ch.map dI)=(Xe ch.length).map fun i=>XI [Xa (i:Nat),dI (ch.getD i [])]:=by
 unfold jQ
 simp_all
theorem Ja{α : Type}{L:List α}{d:α}(h:i<L.length):L.getD i d∈L:=by
 simp_all
theorem zbZ{L:List α}{d:α}(h:InR x L.length):atI L x=some (L.getD x.toNat d)/\L.getD x.toNat d∈L:=by
 have a:x.toNat<L.length:=by have:=h.1;have:=h.2;lia
 have:=jb (YaQ a);rw [show((x.toNat))=x by have:=h.1;lia] at this
 simp_all
def jz(rs:List Rule)(t k:Int):Prop:=∃ r∈rs,r.2.1=t/\(k=r.2.2↔r.1 = "barred")
def j4(rs:List Rule)(n:Nat)(ds:List (List Key×D)):Prop:=∀ t k:Int,0<=k->k<(n:Int)->((getT ds (kk t k)).isSome=true↔jz rs t k)
theorem j4.nil(n):j4 [] n []:=fun t k _ _=>⟨fun z=>(by cases z),fun⟨r,h,_⟩=>(by cases h)⟩
def Jb(rs:List Rule)(r:Rule)(n j:Nat)(ds:List (List Key×D)):Prop:=∀ t k:Int,0<=k->k<(n:Int)->((getT ds (kk t k)).isSome=true↔jz rs t k\/(k<(j:Int)/\r.2.1=t/\(k=r.2.2↔r.1 = "barred")))
theorem j4.part{r:Rule}(h:j4 rs n ds):Jb rs r n 0 ds:=fun t k b a=>by
 rw [h t k b a]
 grind
theorem Jb.whole{r:Rule}(h:Jb rs r n n ds):j4 (rs++[r]) n ds:=fun t k b c=>by
 rw [h t k b c]
 constructor
 . rintro(⟨x,a,e⟩|⟨_,e⟩)
   . exact⟨x,Yai _ a,e⟩
   . exact⟨r,by simp,e⟩
 . rintro⟨x,a,e⟩
   rcases Ya3.mp a with z|z
   . exact .inl ⟨x,z,e⟩
   simp_all
theorem zhh(a b):(XL (.bool a) (.bool b)=true)↔a=b:=by cases a<;>cases b<;>decide +kernel
theorem Jb.put{r:Rule}(h:Jb rs r n j ds)(e:XL (.bool (decide (0+(j:Int)=r.2.2))) (.bool (decide (r.1 = "barred")))=true):Jb rs r n (j+1) (putT ds (kk r.2.1 (0+(j:Int))) (.bool true)):=fun t k a b=>by
 have c:=by
  have:=(zhh _ _).mp e;exact this
 rw [zjy,Wbr]
 by_cases z:kk t k=kk r.2.1 (j)
 . grind
 . rw [if_neg z,h t k a b]
   grind
theorem Jb.skip{r:Rule}(h:Jb rs r n j ds)(e:¬XL (.bool (decide (0+(j:Int)=r.2.2))) (.bool (decide (r.1 = "barred")))=true):Jb rs r n (j+1) ds:=fun t k a b=>by
 have c:=fun w=>e ((zhh _ _).mpr (by rw [decide_eq_decide];exact w))
 rw [h t k a b]
 grind
noncomputable def mayD(ds:List (List Key×D))(v:Win)(t:Int):Bool:=if t<v.2.2.1 then false else match v.2.2.2 with
 | none=>!(getT ds (kk t v.1)).isSome
 | some x=>if x<t then false else !(getT ds (kk t v.1)).isSome
def mayP(rs:List Rule)(v:Win)(t:Int):Prop:=v.2.2.1<=t/\Jx t v.2.2.2/\¬jz rs t v.1
theorem zio(h:j4 rs n ds){v:Win}(a:InR v.1 n):mayD ds v t=true↔mayP rs v t:=by
 have g:=h t v.1 a.1 a.2;have b:((!(getT ds (kk t v.1)).isSome)=true)↔¬jz rs t v.1:=by
  rw [<-g];simp
 unfold mayD mayP
 by_cases e:t<v.2.2.1
 . rw [if_pos e]
   grind
 . rw [if_neg e]
   cases hl:v.2.2.2 with
   | none=>exact b.trans ⟨fun z=>⟨#[0],XF,z⟩,fun z=>z.2.2⟩
   | some x=>
    dsimp only
    by_cases c:x<t
    . rw [if_pos c]
      exact⟨fun z=>(by cases z),fun z=>absurd (show t<=x from z.2.1) #[0]⟩
    . rw [if_neg c]
      exact b.trans ⟨fun z=>⟨#[0],show t<=x by omega,z⟩,fun z=>z.2.2⟩
def ChOk(rs:List Rule)(V:List Win)(ch:List (List Int)):Prop:=∀ k,k<ch.length->∀ i,i<V.length->(((i:Nat):Int)∈ch.getD k []↔mayP rs (V.getD i (0,0,0,none)) ((k:Int)+1))
theorem ChOk.snoc{V:List Win}(h:ChOk rs V ch)(c:∀ i,i<V.length->(((i:Nat):Int)∈row↔mayP rs (V.getD i (0,0,0,none)) ((ch.length:Int)+1))):ChOk rs V (ch++[row]):=fun k a i b=>by
 rw [YaS,Xm] at a;rw [YaP]
 by_cases e:k<ch.length
 . rw [Yab e];exact h k e i b
 . have:k=ch.length:=#[0]
   simp_all
def TvOk(m:Nat)(ch:List (List Int))(k:Nat)(done:List Int)(tv:List (List Int)):Prop:=∀ i,i<m->∀ j:Nat,((j:Int)∈tv.getD i []↔(j<k/\(i:Int)∈ch.getD j [])\/(j=k/\(i:Int)∈done))
theorem TvOk.nil(m)(ch):TvOk m ch 0 [] (Xb m []):=fun i a j=>by
 simp_all
theorem TvOk.step(h:TvOk m ch k done tv)(c:InR x tv.length)(l:tv.length=m):TvOk m ch k (done++[x]) (tv.set x.toNat (tv.getD x.toNat []++[(k:Int)])):=fun i b j=>by
 have a:x.toNat<tv.length:=by have:=c.2;lia
 have g:=c.1;rw [YaP,List.getElem?_set]
 by_cases e:x.toNat=i
 . subst e
   rw [if_pos rfl,if_pos a];show(j:Int)∈tv.getD _ []++[(k:Int)]↔_;rw [Ya3,h _ b j,Ya6]
   grind
 . rw [if_neg e,<-YaP,h i b j]
   grind
theorem TvOk.whole(h:TvOk m ch k row tv)(e:ch.getD k []=row):TvOk m ch (k+1) [] tv:=fun i a j=>by
 rw [h i a j]
 grind
theorem TvOk.fin(h:TvOk m ch ch.length [] tv):∀ i,i<m->∀ j,j<ch.length->((j:Int)∈tv.getD i []↔(i:Int)∈ch.getD j []):=fun i a j b=>by
 rw [h i a j]
 simp_all
theorem zho(h:(getM t x).isSome=true):(getM (putM t k v) x).isSome=true:=by
 rw [zV]
 grind
theorem zjz(h:∀ c∈done,(getM ca c).isSome=true)(a:¬(getM ca x).isSome=false):∀ c∈done++[x],(getM ca c).isSome=true:=fun c b=>by
 grind
theorem zdW{c:TT3}{P R:Prop}(h:∀ Y N:Prop,(P->Y)->(R->N)->c ρ fun k=>if k=true then Y else N):c ρ fun k=>if k=true then P else R:=h P R id id
noncomputable def z4:Win:=(0,0,0,none)
def J8(V:List Win)(T:Nat)(may:Nat->Nat->Prop)(d:D):Prop:=
 (∃ f:Nat->Nat,(∀ k,k<T->f k<V.length/\may k (f k))/\(∀ i j,i<T->j<T->f i=f j->i=j)/\(∀ i,i<V.length->(V.getD i z4).2.2.2≠none->∃ k,k<T/\f k=i)/\d=.tuple [.str "row", .list ((Xe T).map fun k=>.int (V.getD (f k) z4).1)])
 \/(∃ S:List Int,S.Nodup/\S.Pairwise (·<=·)/\(S≠[]/\S.length<64)/\(∀ x∈S,InR x V.length/\(V.getD x.toNat z4).2.2.2≠none)/\(∃ C:List Int,C.length<S.length/\∀ x∈S,∀ k,k<T->may k x.toNat->(k:Int)∈C)/\d=.tuple [.str "visits", .list (S.map fun x=>.tuple [.int (V.getD x.toNat z4).1,.int (V.getD x.toNat z4).2.1])])
 \/(∃ S:List Int,S.Nodup/\S.Pairwise (·<=·)/\(S≠[]/\S.length<64)/\(∀ x∈S,InR x T)/\(∃ C:List Int,C.length<S.length/\∀ x∈S,∀ i,i<V.length->may x.toNat i->(i:Int)∈C)/\d=.tuple [.str "turns", .list (S.map fun x=>.int (x+1))])
theorem znp{V:List Win}(m:Mat t h)(r:TbOk h ch.length V.length)(n:∀ s c,getM h s=some c->c∈ch.getD s.toNat [])(o:∀ i,i<V.length->(V.getD i z4).2.2.2≠none->(getM t (i:Int)).isSome=true)(E:∀ k:Int,0<=k->k<(ch.length:Int)->(getM h k).isSome=true) :
 (∀ k,k<ch.length->((getM h (0+(k:Int))).getD 0).toNat<V.length/\((((getM h (0+(k:Int))).getD 0).toNat:Nat):Int)∈ch.getD k [])/\(∀ i j,i<ch.length->j<ch.length->((getM h (0+(i:Int))).getD 0).toNat=((getM h (0+(j:Int))).getD 0).toNat->i=j)/\(∀ i,i<V.length->(V.getD i z4).2.2.2≠none->∃ k,k<ch.length/\((getM h (0+(k:Int))).getD 0).toNat=i)/\
 XI [.str "row", .list ([]++(Xe ch.length).map fun i:Nat=>.int (V.getD ((getM h (0+(i:Int))).getD 0).toNat (0,0,0,none)).1)]=XI [.str "row", .list ((Xe ch.length).map fun k:Nat=>.int (V.getD ((getM h (0+(k:Int))).getD 0).toNat z4).1)]:=by
 have b:∀ k,k<ch.length->∃ y,getM h (0+(k:Int))=some y/\InR y V.length:=fun k p=>by
  obtain⟨y,a⟩:=Wah.mp (E (0+(k:Int)) #[0] #[0])
  exact⟨y,a,(r.get a).2⟩
 refine⟨fun k p=>?_,fun i j l C e=>?_,fun i l g=>?_,rfl⟩
 . obtain⟨y,a,w,F⟩:=b k p
   rw [a];show y.toNat<_/\((y.toNat:Nat):Int)∈_;have:=n _ _ a;rw [show(0+(k:Int)).toNat=k by omega] at this
   exact⟨#[0],by rw [show((y.toNat:Nat):Int)=y by omega];exact this⟩
 . obtain⟨y,a,w,F⟩:=b i l
   obtain⟨z,u,J,I⟩:=b j C;rw [a,u] at e;have e:y.toNat=z.toNat:=e;have A:y=z:=#[0]
   subst A;have v:=(m y _).mpr a;rw [(m y _).mpr u] at v;have:=Wa3 v
   omega
 . obtain⟨c,B⟩:=Wah.mp (o i l g)
   have q:=(m _ _).mp B;obtain⟨G,H⟩:=(r.get q).1;refine⟨c.toNat,#[0],?_⟩
   rw [show(0+((c.toNat:Nat):Int))=c by omega,q]
   show(i:Int).toNat=i
   omega
theorem J8.imp{V:List Win}{may may':Nat->Nat->Prop}(h:∀ k,k<T->∀ i,i<V.length->(may k i↔may' k i))(p:J8 V T may d):J8 V T may' d:=by
 rcases p with ⟨f,e,m,l,g⟩|⟨S,e,m,l,g,⟨C,r,q⟩,n⟩|⟨S,e,m,l,g,⟨C,r,q⟩,n⟩
 . exact .inl ⟨f,fun k c=>⟨(e k c).1,(h k c _ (e k c).1).mp (e k c).2⟩,m,l,g⟩
 . refine .inr (.inl ⟨S,e,m,l,g,⟨C,r,fun x j k c o=>q x j k c ((h k c _ ?_).mpr o)⟩,n⟩)
   obtain⟨⟨a,b⟩,_⟩:=g x j;omega
 . refine .inr (.inr ⟨S,e,m,l,g,⟨C,r,fun x j i s o=>q x j i s ((h _ ?_ i s).mpr o)⟩,n⟩)
   obtain⟨a,b⟩:=g x j;omega
noncomputable def posC(row:List Int)(c:Int)(k:Nat):List Nat:=(Xe k).filter fun i=>decide (row.getD i 0=c)
theorem zbb{row:List Int}{c:Int}:∀ k,k<=row.length->((posC row c k).length:Int)=cnt (row.take k) c
 | 0,_=>rfl
 | k + 1, h => by
  have a:=zbb (row:=row) (c:=c) k #[0]
  unfold posC at a ⊢;rw [Wa6,WaG,zaH #[0]]
  grind
theorem zbq{c:Int}:i∈posC row c k↔i<k/\row.getD i 0=c:=by
 unfold posC
 simp
noncomputable def upTo(j:Nat):List Int:=(Xe j).map fun i:Nat=>(i:Int)+1
theorem zfT(j):(upTo j).length=j:=by unfold upTo;simp
theorem zeo:x∈upTo j↔1<=x/\x<=(j:Int):=by
 unfold upTo;rw [Ya7]
 constructor
 . grind
 . intro h
   exact⟨(x - 1).toNat,Yba.mpr #[0],#[0]⟩
theorem zin(j):(upTo j).Nodup:=by
 unfold upTo;rw [Wae,WaO];exact(Wc).imp fun h=>by omega
structure Given(V:List Win)(row:List Int)(f:Nat->Win):Prop where
 at_:∀ k,k<row.length->f k∈V/\(f k).1=row.getD k 0/\(f k).2.2.1<=(k:Int)+1/\Jx ((k:Int)+1) (f k).2.2.2
 inj:∀ i j,i<row.length->j<row.length->f i=f j->i=j
 due:∀ v∈V,v.2.2.2≠none->∃ k,k<row.length/\f k=v
theorem zfR{T:Int}{V:List Win}(m:OkVs T V)(g:Given V row f){v:Win}(a:v∈V)(s:v.2.2.2=some x)(F:k<=row.length)(E:x<=(k:Int)\/k=row.length):v.2.1<=cnt (row.take k) v.1:=by
 have l:∀ i, 1<=i->i<=v.2.1->∃ p,p<k/\row.getD p 0=v.1/\(f p).2.1=i:=fun i o M=>by
  obtain⟨u,b,w,r,C⟩:∃ u∈V,u.1=v.1/\u.2.1=i/\kl T u<=kl T v:=by
   by_cases e:i=v.2.1
   . exact⟨v,a,rfl,e.symm,Wbz _⟩
   . obtain⟨u,b,z⟩:=m.pre v a i o #[94]
     have A:=congrArg Wo z;have n:(keyW u).2=i:=congrArg _ z;have n:u.2.1=i:=n;exact⟨u,b,A,n,(m.ord u b v a A #[94]).2⟩
  have B:kl T v=x:=by unfold kl;rw [s];rfl
  have O:=m.top v a x s;have q:∃ y,u.2.2.2=some y/\y<=x:=by
   cases e:u.2.2.2 with
   | none => have : kl T u = T + 1 := by unfold kl; rw [e]; rfl
             lia
   | some y => have : kl T u = y := by unfold kl; rw [e]; rfl
               grind
  obtain⟨y,N,K⟩:=q;obtain⟨p,j,H⟩:=g.due u b (by grind)
  obtain⟨_,I,_,h⟩:=g.at_ p j;rw [H] at I h;rw [N] at h;have h:(p)+1<=y:=h
  grind
 have J:=JF (L:=upTo v.2.1.toNat) (zin _) fun i G=>by
  obtain⟨o,M⟩:=zeo.mp G;obtain⟨p,j,w,r⟩:=l i o #[94]
  exact Ya7.mpr ⟨p,zbq.mpr ⟨j,w⟩,r⟩
 rw [zfT,YaR] at J;have:=zbb (c:=v.1) k F
 lia
theorem zl4{T:Int}{V:List Win}(w:OkVs T V)(g:Given V row f):Jq V row:=by
 refine⟨fun k E=>?_,fun v q X=>?_⟩
 . obtain⟨j,Y⟩:∃ j:Nat,(j:Int)=cnt (row.take (k+1)) (row.getD k 0):=⟨_,zbb (row:=row) (c:=row.getD k 0) (k+1) #[0]⟩
   have u:=zaH (r:=row) (k:=k) E (row.getD k 0);rw [if_pos rfl] at u;have F:=zbb (row:=row) (c:=row.getD k 0) (k+1) #[0]
   have R:1<=j:=by
    have:=zbb (row:=row) (c:=row.getD k 0) k #[0]
    omega
   obtain⟨i,hi,s,N⟩:∃ i,i<k+1/\row.getD i 0=row.getD k 0/\(j:Int)<=(f i).2.1:=by
    rcases Wbt _ with z|z
    . exact z
    . exfalso
      have P:((posC row (row.getD k 0) (k+1)).map fun p=>(f p).2.1).Nodup:=by
       rw [Wae,WaO];have:(posC row (row.getD k 0) (k+1)).Pairwise (· < ·):=YX.filter _ (Wc (n:=k+1));refine this.imp_of_mem fun {a b} K J L e=>?_
       obtain⟨h,l⟩:=zbq.mp K;obtain⟨Z,O⟩:=zbq.mp J;obtain⟨U,W,_⟩:=g.at_ a #[0]
       obtain⟨S,I,_⟩:=g.at_ b #[0]
       have:=g.inj a b #[0] #[0] (za7 w.nd U S (by unfold keyW;rw [W,I,l,O,e]))
       omega
      have A:=JF (M:=upTo (j - 1)) P fun x H=>by
       obtain⟨p,G,rfl⟩:=Ya7.mp H;obtain⟨h,l⟩:=zbq.mp G;have o:=(w.one _ (g.at_ p #[0]).1).1
       have:¬(j:Int)<=(f p).2.1:=fun y=>z ⟨p,h,l,y⟩
       exact zeo.mpr ⟨o,#[0]⟩
      rw [zfT,YaR] at A
      omega
   obtain⟨B,C,u3,u4⟩:=g.at_ i #[0]
   obtain⟨v,q,m,Q⟩:∃ v∈V,keyW v=(row.getD k 0,(j:Int))/\v.2.2.1<=(f i).2.2.1:=by
    by_cases e:(f i).2.1=(j:Int)
    . exact⟨f i,B,by unfold keyW;rw [C,s,e],Wbz _⟩
    . obtain⟨v,q,m⟩:=w.pre (f i) B j #[0] #[0]
      rw [C,s] at m;have h:(keyW v).1=row.getD k 0:=congrArg Wo m;have l:(keyW v).2=(j:Int):=congrArg WZ m;have h:v.1=row.getD k 0:=h;have l:v.2.1=(j:Int):=l;exact⟨v,q,m,(w.ord v q (f i) B (by rw [h,C,s]) #[0]).1⟩
   refine⟨v,q,by rw [m];unfold keyR;rw [Y],#[0],?_⟩
   cases A:v.2.2.2 with
   | none=>exact XF
   | some x=>
    rcases Int.lt_or_le x ((k:Int)+1) with z|z
    . exfalso
      have:=zfR w g q A (k:=k) #[0] (.inl #[0])
      have h:=congrArg Wo m;have l:(keyW v).2=(j:Int):=congrArg WZ m;have h:v.1=row.getD k 0:=h;have l:v.2.1=(j:Int):=l;rw [h,l] at this
      omega
    . exact z
 . cases A:v.2.2.2 with
   | none=>exact absurd A X
   | some x=>
    have:=zfR w g q A (k:=row.length) (YaY _) (.inr rfl);rwa [YaH] at this
theorem zhy{T:Int}{V:List Win}(j:OkVs T V)(n:Jq V row)(c:∀ k,k<row.length->∀ v∈V,keyW v=keyR row k->v.2.2.1<=(k:Int)+1->Jx ((k:Int)+1) v.2.2.2->may v k){S:List Win}(q:S.Nodup)(h:∀ v∈S,v∈V/\v.2.2.2≠none){C:List Nat}(B:∀ v∈S,∀ k,k<row.length->may v k->k∈C):S.length<=C.length:=by
 have m:(S.map keyW).Nodup:=by
  rw [Wae,WaO];exact(Wae.mp q).imp_of_mem fun {a b} z A l e=>l (za7 j.nd (h a z).1 (h b A).1 e)
 have:=JF m fun x w=>by
  obtain⟨v,o,rfl⟩:=Ya7.mp w;obtain⟨g,F⟩:=h v o;have E:=n.2 v g F;obtain⟨k,i,e⟩:=zc7 _ (YaY _) v.2.1 (j.one v g).1 (by rw [YaH];exact E)
  obtain⟨u,s,p,r,y⟩:=n.1 k i;have:=za7 j.nd s g (p.trans e);subst this;exact Ya7.mpr ⟨k,B u o k i (c k i u g p r y),e⟩
 simp_all
theorem zml{V:List Win}(m:Jq V row)(c:∀ k,k<row.length->∀ v∈V,keyW v=keyR row k->v.2.2.1<=(k:Int)+1->Jx ((k:Int)+1) v.2.2.2->may v k){S:List Nat}(n:S.Nodup)(g:∀ k∈S,k<row.length){C:List Win}(u:∀ k∈S,∀ v∈V,may v k->v∈C):S.length<=C.length:=by
 have j:(S.map (keyR row)).Nodup:=by
  rw [Wae,WaO];refine(Wae.mp n).imp_of_mem fun {a b} r s i e=>?_
  rcases Nat.lt_or_gt_of_ne i with z|z
  . exact zbM (g b s) z e
  . exact zbM (g a r) z e.symm
 have:=JF j fun x p=>by
  obtain⟨k,h,rfl⟩:=Ya7.mp p;obtain⟨v,l,e,o,q⟩:=m.1 k (g k h);exact Ya7.mpr ⟨v,u k h v l (c k (g k h) v l e o q),e⟩
 simp_all
def RowK(rs:List Rule)(row:List Int):Prop:=∀ r∈rs,(r.1 = "fixed"↔row.getD (r.2.1 - 1).toNat 0=r.2.2)
theorem JZ:("fixed" : Str)≠"barred":=#[3]
theorem zdn{T n:Int}(g:okRs T n rs)(h:RowK rs row){k:Nat}:¬jz rs ((k:Int)+1) (row.getD k 0):=fun⟨r,c,e,z⟩=>by
 have b:=h r c;rw [e,show((k:Int)+1 - 1).toNat=k by omega] at b
 rcases(g r c).1 with w|w
 . have a:=b.mp w
   have:=z.mp a;rw [w] at this;exact JZ this
 . have a:=z.mpr w
   have:=b.mpr a;rw [w] at this;exact JZ this.symm
theorem zhi{T n:Int}(g:okRs T n rs){row:List Int}(m:(row.length:Int)=T)(h:∀ k,k<row.length->¬jz rs ((k:Int)+1) (row.getD k 0)):RowK rs row:=fun r b=>by
 obtain⟨i,⟨j,l⟩,_⟩:=g r b;have e:(r.2.1 - 1).toNat<row.length:=#[94]
 have c:=h _ e;rw [show(((r.2.1 - 1).toNat))+1=r.2.1 by lia] at c
 have a:=fun z=>c ⟨r,b,rfl,z⟩
 rcases i with w|w
 . refine⟨fun _=>?_,fun _=>w⟩
   rcases Wbt _ with y|y
   . exact y
   . exact absurd ⟨fun z=>absurd z y,fun z=>absurd (w.symm.trans z) JZ⟩ a
 . refine⟨fun z=>absurd (z.symm.trans w) JZ,fun z=>absurd ⟨fun _=>w,fun _=>z⟩ a⟩
theorem zcA{V:List Win}(b:V.Nodup)(c:i<V.length)(a:j<V.length)(e:V.getD i z4=V.getD j z4):i=j:=by
 rw [YaP,YaP,YaQ c,YaQ a] at e;exact(WaU b).mp e
theorem zdK{V:List Win}{v:Win}(h:v∈V):∃ i,i<V.length/\V.getD i z4=v:=by
 obtain⟨i,a,e⟩:=Yam h;exact⟨i,a,by simp_all⟩
theorem zfE{V:List Win}(w:OkVs (T:Int) V)(E:∀ v∈V,InR v.1 n)(B:okRs (T:Int) n rs){f:Nat->Nat}(o:∀ k,k<T->f k<V.length/\mayP rs (V.getD (f k) z4) ((k:Int)+1))(G:∀ i j,i<T->j<T->f i=f j->i=j)(F:∀ i,i<V.length->(V.getD i z4).2.2.2≠none->∃ k,k<T/\f k=i):z8 n T ((Xe T).map fun k=>(V.getD (f k) z4).1)/\Jq V ((Xe T).map fun k=>(V.getD (f k) z4).1)/\RowK rs ((Xe T).map fun k=>(V.getD (f k) z4).1):=by
 have s:V.Nodup:=by
  have:=Wae.mp w.nd;rw [WaO] at this;exact Wae.mpr (this.imp fun h e=>h (by rw [e]))
 have u:∀ k,k<T->(((Xe T).map fun k=>(V.getD (f k) z4).1).getD k 0)=(V.getD (f k) z4).1:=fun k l=>by
  simp_all
 have b:((Xe T).map fun k=>(V.getD (f k) z4).1).length=T:=by simp
 have g:Given V ((Xe T).map fun k=>(V.getD (f k) z4).1) (fun k=>V.getD (f k) z4):=by
  refine⟨fun k l=>?_,fun i j m r e=>?_,fun v z q=>?_⟩
  . rw [b] at l
    obtain⟨a,y,A,_⟩:=o k l;exact⟨Ja a,(u k l).symm,y,A⟩
  . rw [b] at m r
    exact G i j m r (zcA s (o i m).1 (o j r).1 e)
  . obtain⟨i,m,e⟩:=zdK z
    obtain⟨k,l,C⟩:=F i m (by rw [e];exact q)
    exact⟨k,by rw [b];exact l,by rw [C,e]⟩
 refine⟨⟨b,fun c p=>?_⟩,zl4 w g,zhi B (by rw [b]) fun k l=>?_⟩
 . obtain⟨k,l,rfl⟩:=Ya7.mp p
   exact E _ (Ja (o k (Yba.mp l)).1)
 . rw [b] at l
   rw [u k l];exact(o k l).2.2.2
theorem zjY{V:List Win}(w:OkVs (T:Int) V)(Q:∀ v∈V,InR v.1 n)(J:okRs (T:Int) n rs)(N:row0.length=T)(s:Jq V row0)(I:RowK rs row0)(U:J8 V T (fun k i=>mayP rs (V.getD i z4) ((k:Int)+1)) d):∃ row:List Int,z8 n T row/\Jq V row/\RowK rs row/\d=.tuple [.str "row", .list (row.map .int)]:=by
 have F:V.Nodup:=by
  have:=Wae.mp w.nd;rw [WaO] at this;exact Wae.mpr (this.imp fun h e=>h (by rw [e]))
 have j:∀ k,k<row0.length->∀ v∈V,keyW v=keyR row0 k->v.2.2.1<=(k:Int)+1->Jx ((k:Int)+1) v.2.2.2->mayP rs v ((k:Int)+1):=fun k q v p e o r=>by
  have B:(keyW v).1=row0.getD k 0:=congrArg Wo e;have B:v.1=row0.getD k 0:=B;exact⟨o,r,by rw [B];exact zdn J I⟩
 rcases U with ⟨f,o,r,A,g⟩|⟨S,o,r,A,g,⟨C,O,G⟩,L⟩|⟨S,o,r,A,g,⟨C,O,G⟩,L⟩
 . obtain⟨a,b,c⟩:=zfE w Q J o r A
   exact⟨_,a,b,c,by rw [g,YaD];rfl⟩
 . exfalso
   have:=zhy w s j (S:=S.map fun x=>V.getD x.toNat z4) (C:=C.map XX) (by
    rw [Wae,WaO];refine(Wae.mp o).imp_of_mem fun {a b} z y m e=>m ?_
    obtain⟨E,H⟩:=(g a z).1;obtain⟨K,P⟩:=(g b y).1;have:=zcA F #[0] #[0] e
    omega) (fun v p=>by
    obtain⟨x,l,rfl⟩:=Ya7.mp p;obtain⟨⟨E,H⟩,R⟩:=g x l;exact⟨Ja #[0],R⟩) (fun v p k q u=>by
    obtain⟨x,l,rfl⟩:=Ya7.mp p;exact Ya7.mpr ⟨_,G x l k #[0] u,#[0]⟩)
   rw [YaR,YaR] at this
   omega
 . exfalso
   have:=zml s j (S:=S.map XX) (C:=C.map fun i=>V.getD i.toNat z4) (by
    rw [Wae,WaO];refine(Wae.mp o).imp_of_mem fun {a b} z y m e=>m ?_
    obtain⟨E,H⟩:=g a z;obtain⟨K,P⟩:=g b y
    omega) (fun k q=>by
    obtain⟨x,l,rfl⟩:=Ya7.mp q;obtain⟨E,H⟩:=g x l
    omega) (fun k q v p u=>by
    obtain⟨x,l,rfl⟩:=Ya7.mp q;obtain⟨i,M,e⟩:=zdK p;refine Ya7.mpr ⟨_,G x l i M (by show mayP rs (V.getD i z4) _;rw [e];exact u),?_⟩
    rw [Xi];exact e)
   rw [YaR,YaR] at this
   omega
theorem zgy(a:okS l):∀ r∈quoB (zi l) l,r.length=many l/\∀ x∈r,Bits 1000 x:=fun r b=>⟨za8 a b,fun x e=>by
 have c:=zcg a;have i:=zgr a c r b x e;have g:=zlE a #[0] r b x e
 have h:tot l*zi l<=60*zi l:=Ybe a.2.2 #[0]
 exact(((Bits.lit (x:=60) 64).mul (zbu a)).le #[0]).mono #[1]⟩
theorem zcY(a:okS l)(g:okB (many l) bs)(h:∀ p∈bs,okQ p.1/\okQ p.2)(e:IsWs l bs W):∀ row':List Int,z8 (many l) (tot l).toNat row'->(kpP (zi l) (many l) (quoB (zi l) l) row' bs↔Jq W.flatten row'):=fun row' b=>
 (zjn (zbs a) (zcg a) (zjg a) g.1 h fun t n=>by
  have j:=zby a;have i:=b.1;have c:(quo l).getD (t+1) []∈quo l:=by
   rw [YaP,YaQ #[94]];simp_all
  have m:=za8 a c;unfold jw subL;rw [YaR,Wk,zbe,m,WP]).symm.trans ((zkB a g h b e.1 e.2).trans (zlQ a e b).symm)
theorem zj2:Xt (.str "fixed")=true:=#[3]
theorem zhf:Xt (.str "barred")=true:=#[3]
theorem zk9(h:okS l):1<=tot l:=by
 obtain⟨⟨e,_⟩,b,_⟩:=h;cases l with
 | nil=>simp at e
 | cons a r=>
  have:=zeM (fun t c=>(b t c).1) (YaV)
  have:=(b a YaV).1
  omega
structure Mend(Ch:Int->Int->Prop)(c:Int->Int->Int)(p0:Int->Int)(A B s:Nat)(tp vp:Int->Int)(t h:Tb):Prop where
 mat:Mat t h
 ot:TbOk t A B
 oh:TbOk h B A
 dom:∀ x,(getM t x).isSome=true↔0<=x/\x<(s:Int)
 ed:∀ x v,getM t x=some v->Ch x v/\tp x+vp v=c x v
 low:∀ x v,0<=x->x<(s:Int)->Ch x v->tp x+vp v<=c x v
 free:∀ v,getM h v=none->vp v=p0 v
 zero:∀ x,(s:Int)<=x->tp x=0
 top:∀ v,vp v<=p0 v
def Lab(h far:Tb)(start:Int)(done:List Int)(r g:Int):Prop:=(r=start/\g=0)\/∃ u∈done,getM h u=some r/\getM far u=some g
structure Sea(Ch:Int->Int->Prop)(c:Int->Int->Int)(tp vp:Int->Int)(h:Tb)(start:Int)(far came:Tb)(done:List Int):Prop where
 nd:done.Nodup
 held:∀ u∈done,(getM h u).isSome=true/\(getM far u).isSome=true
 all:∀ r g v,Lab h far start done r g->Ch r v->∃ x,getM far v=some x/\x<=g+c r v - tp r - vp v
 one:∀ v x,getM far v=some x->∃ r g,getM came v=some r/\Lab h far start done r g/\Ch r v/\x=g+c r v - tp r - vp v
 ord:∀ (i:Nat) v,done[i]?=some v->∃ r,getM came v=some r/\(r=start\/∃ (j:Nat) (u:Int),j<i/\done[j]?=some u/\getM h u=some r)
 least:∀ u∈done,∀ v,v∉done->∀ x y,getM far u=some x->getM far v=some y->x<=y
def Looked(Ch:Int->Int->Prop)(c:Int->Int->Int)(tp vp:Int->Int)(r g:Int)(far came far' came':Tb):Prop:=∀ v,
 (¬Ch r v->getM far' v=getM far v/\getM came' v=getM came v)/\
 (Ch r v->(∃ x,getM far v=some x/\x<=g+c r v - tp r - vp v/\getM far' v=some x/\getM came' v=getM came v)\/
  ((∀ x,getM far v=some x->g+c r v - tp r - vp v<x)/\getM far' v=some (g+c r v - tp r - vp v)/\getM came' v=some r))
section
variable{s:Nat}{t far' came':Tb}{start:Int}
theorem Sea.begin_(j:Looked Ch c tp vp start 0 [] [] far came):Sea Ch c tp vp h start far came []:=by
 refine⟨Wbb,fun u a=>(by cases a),fun r g v o b=>?_,fun v x e=>?_,fun i v e=>(by simp at e),fun u a=>(by cases a)⟩
 . rcases o with ⟨rfl,rfl⟩|⟨u,a,_⟩
   . rcases(j v).2 b with ⟨x,e,_⟩|⟨_,e,_⟩
     . cases e
     simp_all
   . cases a
 . by_cases b:Ch start v
   . rcases(j v).2 b with ⟨x,m,_⟩|⟨_,l,n⟩
     . cases m
     . rw [e] at l
       exact⟨start,0,n,.inl ⟨rfl,rfl⟩,b,Wa3 l⟩
   . rw [((j v).1 b).1] at e;cases e
theorem Sea.next(S:Sea Ch c tp vp h start far came done)(M:Mend Ch c p0 A B s tp vp t h){u g r:Int}(hu:u∉done)(L:getM far u=some g)(I:∀ v,v∉done->∀ y,getM far v=some y->g<=y)(Z:getM h u=some r)
 (G:Looked Ch c tp vp r g far came far' came'):Sea Ch c tp vp h start far' came' (done++[u]):=by
 have tr:getM t r=some u:=(M.mat r u).mpr Z;have O:0<=r/\r<(s:Int):=(M.dom r).mp (by rw [tr];rfl)
 have Y:=fun v o=>by have:=M.low r v O.1 O.2 o;lia
 have X:∀ w∈done++[u],∀ x,getM far w=some x->x<=g:=fun w n x e=>by
  rcases Ya3.mp n with z|z
  . exact S.least w z u hu x g e L
  . rw [Ya6.mp z,L] at e;rw [Wa3 e];exact Wbz _
 have a6:∀ w∈done++[u],∃ x,getM far w=some x:=fun w n=>by
  rcases Ya3.mp n with z|z
  . exact Wah.mp (S.held w z).2
  . rw [Ya6.mp z];exact⟨g,L⟩
 have l:∀ w∈done++[u],getM far' w=getM far w/\getM came' w=getM came w:=fun w n=>by
  by_cases o:Ch r w
  . rcases(G w).2 o with ⟨x,q,_,m,p⟩|⟨q,_,_⟩
    . exact⟨m.trans q.symm,p⟩
    . obtain⟨x,e⟩:=a6 w n
      have F:=q x e;have E:=X w n x e;have h3:=Y w o
      lia
  . exact(G w).1 o
 have a7:∀ J N,Lab h far start done J N->Lab h far' start (done++[u]) J N:=fun J N z=>by
  rcases z with z|⟨w,n,F,E⟩
  . exact .inl z
  . exact .inr ⟨w,Yai _ n,F,by rw [(l w (Yai _ n)).1];exact E⟩
 have P:Lab h far' start (done++[u]) r g:=.inr ⟨u,by simp,Z,by rw [(l u (by simp)).1];exact L⟩
 refine⟨WaK.mpr ⟨S.nd,by simp,fun a ha b hb e=>hu (by rw [Ya6.mp hb] at e;rw [<-e];exact ha)⟩,fun w n=>?_,fun J N v a5 o=>?_,fun v x e=>?_,fun i v e=>?_,fun w n v hv x y q C=>?_⟩
 . rw [(l w n).1]
   rcases Ya3.mp n with z|z
   . exact S.held w z
   . rw [Ya6.mp z,Z,L];exact⟨rfl,rfl⟩
 . have Q:Lab h far start done J N->∃ x,getM far' v=some x/\x<=N+c J v - tp J - vp v:=fun z=>by
    obtain⟨x,q,C⟩:=S.all J N v z o
    by_cases W:Ch r v
    . rcases(G v).2 W with ⟨x',m,_,p,_⟩|⟨m,p,_⟩
      . rw [q] at m;rw [<-Wa3 m] at p;exact⟨x,p,C⟩
      . have:=m x q;exact⟨_,p,#[94]⟩
    . exact⟨x,by rw [((G v).1 W).1];exact q,C⟩
   rcases a5 with z|⟨w,n,F,E⟩
   . exact Q (.inl z)
   . rw [(l w n).1] at E
     rcases Ya3.mp n with z|z
     . exact Q (.inr ⟨w,z,F,E⟩)
     . rw [Ya6.mp z] at F E
       rw [Z] at F;rw [L] at E;have F:=Wa3 F;have E:=Wa3 E;subst F E
       rcases(G v).2 o with ⟨x,_,C,m,_⟩|⟨_,m,_⟩
       . exact⟨x,m,C⟩
       . exact⟨_,m,Wbz _⟩
 . have K:getM far' v=getM far v->getM came' v=getM came v->∃ r g,getM came' v=some r/\Lab h far' start (done++[u]) r g/\Ch r v/\x=g+c r v - tp r - vp v:=fun q C=>by
    refine Hd fun k V=>?_;obtain⟨U,g0,R,H,a3,a4⟩:=S.one v x (q ▸ e);apply V;exact⟨U,g0,C.trans R,a7 _ _ H,a3,a4⟩
   by_cases o:Ch r v
   . rcases(G v).2 o with ⟨x',q,_,m,p⟩|⟨_,m,p⟩
     . exact K (m.trans q.symm) p
     . rw [e] at m
       exact⟨r,g,p,P,o,Wa3 m⟩
   . exact K ((G v).1 o).1 ((G v).1 o).2
 . by_cases hi:i<done.length
   . rw [Yab hi] at e
     have hv:=Yah e;obtain⟨U,R,H⟩:=S.ord i v e;refine⟨U,by rw [(l v (Yai _ hv)).2];exact R,?_⟩
     rcases H with H|⟨j,w,b1,b2,b3⟩
     . exact .inl H
     . exact .inr ⟨j,w,b1,by rw [Yab #[94]];exact b2,b3⟩
   . have a0:i=done.length:=by
      have:=(Ya8.mp e).1;rw [YaS,Xm] at this
      lia
     subst a0;rw [Yae (YaY _),Wbs] at e;have e:u=v:=Wa3 e;subst e;refine Hd fun k V=>?_;obtain⟨U,g0,R,H,_,_⟩:=S.one u g L;apply V;refine⟨U,by rw [(l u (by simp)).2];exact R,?_⟩
     rcases H with ⟨H,_⟩|⟨w,b1,b2,_⟩
     . exact .inl H
     . obtain⟨j,hj,ej⟩:=Yam b1
       exact .inr ⟨j,w,hj,by rw [Yab hj,YaQ hj,ej],b2⟩
 . rw [(l w n).1] at q
   have F:=X w n x q;have T:v∉done:=fun z=>hv (Yai _ z)
   by_cases o:Ch r v
   . rcases(G v).2 o with ⟨x',m,_,p,_⟩|⟨_,p,_⟩
     . rw [C] at p
       rw [<-Wa3 p] at m;have:=I v T y m
       lia
     . rw [C] at p
       have:=Wa3 p;have:=Y v o
       lia
   . rw [((G v).1 o).1] at C
     have:=I v T y C
     lia
structure WayP(P:Int->Prop)(Ed:Int->Int->Prop)(ca t:Tb)(r:Int->Nat)(start:Int)(A B:Nat):Prop where
 inn:∀ c s,P c->getM ca c=some s->InR s A/\InR c B
 ed:∀ c s,P c->getM ca c=some s->Ed s c
 back:∀ c s c',P c->getM ca c=some s->getM t s=some c'->P c'/\∃ s',getM ca c'=some s'/\r s'<r s
 first:∀ c s,P c->getM ca c=some s->getM t s=none->s=start
structure Paid(h far:Tb)(start:Int)(done:List Int)(whole:Int)(tp vp tp' vp':Int->Int):Prop where
 st:tp' start=tp start+whole
 re:∀ u∈done,∀ r y,getM h u=some r->getM far u=some y->tp' r=tp r+(whole - y)/\vp' u=vp u - (whole - y)
 to:∀ x,x≠start->(∀ u∈done,getM h u≠some x)->tp' x=tp x
 vo:∀ v,v∉done->vp' v=vp v
theorem Paid.lab(p:Paid h far start done whole tp vp tp' vp'){r g:Int}(l:Lab h far start done r g):tp' r=tp r+(whole - g):=by
 rcases l with ⟨rfl,rfl⟩|⟨u,c,a,b⟩
 . rw [p.st];omega
 . exact(p.re u c r g a b).1
theorem Sea.open_(S:Sea Ch c tp vp h start far came done)(M:Mend Ch c p0 A B s tp vp t h)(o:InR start A)(N:getM t start=none){f:Int->Int}(I:∀ x,InR x A->Ch x (f x))(E:∀ x y,InR x A->InR y A->f x=f y->x=y):∃ v x,v∉done/\getM far v=some x:=by
 refine Waf fun G=>?_
 have F:=fun v x e=>Waf fun z=>G ⟨v,x,z,e⟩
 have q:∀ u∈done,getM h u=some ((getM h u).getD 0):=fun u i=>by
  obtain⟨r,e⟩:=Wah.mp (S.held u i).1;rw [e];rfl
 have H:=fun u i=>(M.mat _ u).mpr (q u i)
 have n:∀ r∈start::done.map (fun u=>(getM h u).getD 0),InR r A/\∃ g,Lab h far start done r g:=fun r l=>by
  rcases Wbe.mp l with rfl|l
  . exact⟨o,0,.inl ⟨rfl,rfl⟩⟩
  . obtain⟨u,i,rfl⟩:=Ya7.mp l
    obtain⟨x,e⟩:=Wah.mp (S.held u i).2;exact⟨(M.oh.get (q u i)).2,x,.inr ⟨u,i,q u i,e⟩⟩
 have J:(start::done.map (fun u=>(getM h u).getD 0)).Nodup:=by
  refine YaB.mpr ⟨fun z=>?_,?_⟩
  . obtain⟨u,i,e⟩:=Ya7.mp z
    grind
  . rw [Wae,WaO]
    refine(Wae.mp S.nd).imp_of_mem fun {a b} C w j e=>j ?_
    have m:=H a C;rw [e,H b w] at m;exact(Wa3 m).symm
 have p:((start::done.map (fun u=>(getM h u).getD 0)).map f).Nodup:=by
  rw [Wae,WaO];exact(Wae.mp J).imp_of_mem fun {a b} C w j e=>j (E a b (n a C).1 (n b w).1 e)
 have:=JF p fun y L=>by
  obtain⟨r,l,rfl⟩:=Ya7.mp L;obtain⟨m,g,K⟩:=n r l;obtain⟨x,e,_⟩:=S.all r g (f r) K (I r m);exact F _ x e
 rw [YaR,Xq,YaR] at this
 omega
theorem Mend.next(M:Mend Ch c p0 A B s tp vp t h)(S:Sea Ch c tp vp h (s:Int) far came done)(I:v∉done)(K:getM far v=some whole)(E:∀ u,u∉done->∀ y,getM far u=some y->whole<=y)(p:Paid h far (s:Int) done whole tp vp tp' vp'){t' h':Tb}(j:Moved (fun x v=>Ch x v/\tp' x+vp' v=c x v) t h t' h' (s:Int) A B):Mend Ch c p0 A B (s+1) tp' vp' t' h':=by
 have b:∀ u∈done,∃ r y,getM h u=some r/\getM far u=some y/\y<=whole/\0<=r/\r<(s:Int):=fun u a=>by
  obtain⟨r,m⟩:=Wah.mp (S.held u a).1;obtain⟨y,o⟩:=Wah.mp (S.held u a).2;have:=(M.dom r).mp (by rw [(M.mat r u).mpr m];rfl)
  exact⟨r,y,m,o,S.least u a v I y whole o K,this.1,this.2⟩
 have n:∀ u,vp' u<=vp u:=fun u=>by
  by_cases a:u∈done
  . obtain⟨r,y,m,o,N,_⟩:=b u a
    rw [(p.re u a r y m o).2];lia
  . rw [p.vo u a];exact Wbz _
 refine⟨j.mat,j.ot,j.oh,fun x=>?_,j.ed,fun x u J O H=>?_,fun u a=>?_,fun x F=>?_,fun u=>?_⟩
 . rw [j.dt,M.dom];lia
 . rcases Wbt (∃ g,Lab h far (s:Int) done x g) with ⟨g,l⟩|C
   . obtain⟨y,m,o⟩:=S.all x g u l H
     rw [p.lab l]
     by_cases a:u∈done
     . obtain⟨r,P,L,G,_⟩:=b u a
       rw [(p.re u a r y L m).2];lia
     grind
   . have F:x≠(s:Int):=fun z=>C ⟨0,.inl ⟨z,rfl⟩⟩
     have:=p.to x F fun w i e=>by
      obtain⟨r,y,_,G,_⟩:=b w i;exact C ⟨y,.inr ⟨w,i,e,G⟩⟩
     have q:=M.low x u J #[94] H
     have Q:=n u
     lia
 . have q:getM h u=none:=by
    cases e:getM h u with
    | none=>rfl
    | some r=>have:=j.dh u (by rw [e];rfl);rw [a] at this;cases this
   rw [p.vo u fun z=>by have:=(S.held u z).1;rw [q] at this;cases this]
   exact M.free u q
 . rw [p.to x #[94] fun w i e=>by
    grind]
   exact M.zero x #[94]
 . exact Wbq (n u) (M.top u)
theorem Sea.way(S:Sea Ch c tp vp h start far came done)(M:Mend Ch c p0 A B s tp vp t h)(N:InR start A)(h0:getM t start=none)(P:∀ x v,Ch x v->InR v B)(hv:v∉done)(W:getM far v=some whole)(p:Paid h far start done whole tp vp tp' vp') :
 WayP (fun u=>u∈done\/u=v) (fun x v=>Ch x v/\tp' x+vp' v=c x v) came t (fun x=>if x=start then 0 else(done.map fun u=>(getM h u).getD 0).idxOf x+1) start A B/\∃ r,getM came v=some r:=by
 have Z:∀ u∈done,getM h u=some ((getM h u).getD 0):=fun u l=>by
  obtain⟨r,e⟩:=Wah.mp (S.held u l).1;rw [e];rfl
 have K:=fun u l=>(M.mat _ u).mpr (Z u l)
 have m:∀ u,u∈done\/u=v->∃ y,getM far u=some y:=fun u l=>by
  rcases l with l|rfl
  . exact Wah.mp (S.held u l).2
  . exact⟨whole,W⟩
 have Q:(done.map fun u=>(getM h u).getD 0).Nodup:=by
  rw [Wae,WaO];refine(Wae.mp S.nd).imp_of_mem fun {a b} ha hb O e=>O ?_
  have h1:=K a ha;rw [e,K b hb] at h1;exact(Wa3 h1).symm
 have rk:∀ (j:Nat) (u:Int),done[j]?=some u->(if(getM h u).getD 0=start then 0 else(done.map fun u=>(getM h u).getD 0).idxOf ((getM h u).getD 0)+1)=j+1:=fun j u e=>by
  have l:=Yah e;rw [if_neg fun z=>by have:=K u l;rw [z,h0] at this;cases this]
  obtain⟨X,U⟩:=Ya8.mp e;have R:j<(done.map fun u=>(getM h u).getD 0).length:=by rw [YaR];exact X
  have:=Q.idxOf_getElem j R;rw [List.getElem_map,U] at this;rw [this]
 have C:∀ u r,u∈done\/u=v->getM came u=some r->r=start\/∃ (j:Nat) (w:Int),done[j]?=some w/\getM h w=some r:=fun u r l e=>by
  obtain⟨y,o⟩:=m u l;obtain⟨G,g,n,J,_⟩:=S.one u y o;rw [e] at n;rw [Wa3 n]
  rcases J with ⟨z,_⟩|⟨w,E,q,_⟩
  . exact .inl z
  . obtain⟨j,X,U⟩:=Yam E
    exact .inr ⟨j,w,by rw [YaQ X,U],q⟩
 refine⟨⟨fun u r l e=>?_,fun u r l e=>?_,fun u r T l e F=>?_,fun u r l e F=>?_⟩,?_⟩
 . obtain⟨y,o⟩:=m u l
   obtain⟨G,g,n,J,L,_⟩:=S.one u y o;rw [e] at n;refine⟨?_,P _ _ L⟩
   rcases C u r l e with z|⟨j,w,_,q⟩
   . rw [z];exact N
   . exact(M.oh.get q).2
 . obtain⟨y,o⟩:=m u l
   obtain⟨G,g,n,J,L,a4⟩:=S.one u y o;rw [e] at n;rw [<-Wa3 n] at J L a4;refine⟨L,?_⟩;rw [p.lab J]
   rcases l with l|rfl
   . rw [(p.re u l _ y (Z u l) o).2];lia
   . rw [p.vo u hv]
     rw [W] at o;have:=Wa3 o
     lia
 . rcases C u r l e with z|⟨j,w,E,q⟩
   . rw [z,h0] at F;cases F
   . have H:=Yah E
     have I:(getM h w).getD 0=r:=by rw [q];rfl
     have:T=w:=by
      have:=K w H;rw [I,F] at this;exact Wa3 this
     subst this;obtain⟨G,c1,c2⟩:=S.ord j T E;refine⟨.inl H,G,c1,?_⟩;have e1:=rk j T E;rw [I] at e1;rw [e1]
     rcases c2 with z|⟨i,x,d1,d2,d3⟩
     . rw [if_pos z];lia
     . have Y:=rk i x d2
       rw [show(getM h x).getD 0=G by rw [d3];rfl] at Y
       rw [Y];lia
 . rcases C u r l e with z|⟨j,w,E,q⟩
   . exact z
   . rw [(M.mat r w).mpr q] at F;cases F
 . obtain⟨r,g,n,_⟩:=S.one v whole W
   exact⟨r,n⟩
end
noncomputable def sumF(n:Nat)(F:Int->Int):Int:=((Xe n).map fun i:Nat=>F (i:Int)).sum
theorem ziT{l m:List Int}(h:l.Perm m):l.sum=m.sum:=by
 induction h with
 | nil=>rfl
 | cons x _ b=>simp_all
 | swap x y l=>grind
 | trans _ _ c a=>grind
theorem zcE{α : Type}{f g:α->Int}:∀ {l:List α},(∀ x∈l,f x<=g x)->(l.map f).sum<=(l.map g).sum
 | [],_=>Wbz _
 | x :: r, h => by
  have b:=zcE fun y a=>h y (YaT _ a)
  grind
theorem ze0{α : Type}{f g:α->Int}:∀ {l:List α},(l.map fun x=>f x+g x).sum=(l.map f).sum+(l.map g).sum
 | []=>rfl
 | x :: r => by
  have:=ze0 (f:=f) (g:=g) (l:=r);rw [Ya1,Ya1,Ya1,XA,XA,XA];lia
theorem zc8{α : Type}{f:α->Int}:∀ {l:List α},(∀ x∈l,f x=0)->(l.map f).sum=0
 | [],_=>rfl
 | x::r,h=>by rw [Ya1,XA,h x YaV,zc8 fun y a=>h y (YaT _ a)];rfl
theorem zf6{α : Type}{f:α->Int}:∀ {l:List α},(∀ x∈l,f x<=1)->(l.map f).sum<=(l.length:Int)
 | [],_=>Wbz _
 | x :: r, h => by
  have b:=zf6 fun y a=>h y (YaT _ a)
  grind
theorem zdS{α : Type}{f:α->Int}:∀ {l:List α},(∀ x∈l,0<=f x)->0<=(l.map f).sum/\∀ x∈l,f x<=(l.map f).sum
 | [],_=>⟨Wbz _,fun x h=>by cases h⟩
 | x :: r, h => by
  have c:=h x YaV;obtain⟨b,e⟩:=zdS fun y a=>h y (YaT _ a)
  rw [Ya1,XA]
  grind
theorem zeY{g:Int->Int}(l:∀ x,InR x A->InR (g x) B)(q:∀ x y,InR x A->InR y A->g x=g y->x=y)(F):∃ L:List Nat,sumF B F=sumF A (fun x=>F (g x))+(L.map fun i:Nat=>F (i:Int)).sum/\∀ i,i∈L↔i<B/\∀ x,InR x A->g x≠(i:Int):=by
 have m:∀ i:Nat,i<A->InR (i:Int) A:=fun i n=>⟨#[94],#[94]⟩
 have I:∀ i:Nat,Decidable (∀ x,InR x A->g x≠(i:Int)):=fun _=>X3 _
 have w:((Xe A).map fun i:Nat=>(g (i:Int)).toNat).Nodup:=by
  rw [Wae,WaO];refine(Wae.mp WaZ).imp_of_mem fun {a b} j h r e=>r ?_
  have j:=m a (Yba.mp j);have h:=m b (Yba.mp h);obtain⟨v,u⟩:=l _ j;obtain⟨G,C⟩:=l _ h;have:=q _ _ j h #[94]
  lia
 have p:(Xe B).Perm (((Xe A).map fun i:Nat=>(g (i:Int)).toNat)++(Xe B).filter fun i:Nat=>decide (∀ x,InR x A->g x≠(i:Int))):=by
  refine(List.perm_ext_iff_of_nodup WaZ (WaK.mpr ⟨w,WaZ.filter _,fun a j b h e=>?_⟩)).mpr fun i=>?_
  . obtain⟨k,c,rfl⟩:=Ya7.mp j
    have c:=m k (Yba.mp c);have z:=of_decide_eq_true (Ya9.mp h).2;obtain⟨v,u⟩:=l _ c;exact z _ c #[94]
  . rw [Ya3,Ya7,Ya9,Yba]
    constructor
    . intro n
      rcases Wbt (∃ x,InR x A/\g x=(i:Int)) with ⟨x,o,e⟩|s
      . obtain⟨E,H⟩:=o
        exact .inl ⟨x.toNat,Yba.mpr #[94],by rw [show((x.toNat:Nat):Int)=x by lia,e];lia⟩
      . exact .inr ⟨n,decide_eq_true fun x o e=>s ⟨x,o,e⟩⟩
    . rintro(⟨k,c,rfl⟩|⟨n,_⟩)
      . obtain⟨v,u⟩:=l _ (m k (Yba.mp c));lia
      . exact n
 refine⟨(Xe B).filter fun i:Nat=>decide (∀ x,InR x A->g x≠(i:Int)),?_,fun i=>?_⟩
 . unfold sumF
   rw [ziT (p.map _),Ya2,Wa7,YaD]
   congr 2
   refine Yat fun k c=>?_
   obtain⟨v,u⟩:=l _ (m k (Yba.mp c))
   grind
 . rw [Ya9,Yba,decide_eq_true_eq]
theorem Mend.fair(M:Mend Ch c p0 A B A tp vp t h)(R:∀ x v,0<=c x v/\c x v<=1){due:Int->Prop}(o:∀ v,(due v->p0 v=(A:Int)+1)/\(¬due v->p0 v=0))
 (I:∀ x v,Ch x v->InR v B) {f:Int->Int} (Q:∀ x,InR x A->Ch x (f x)) (w:∀ x y,InR x A->InR y A->f x=f y->x=y) (E:∀ v,InR v B->due v->∃ x,InR x A/\f x=v) :
 (∀ v,InR v B->due v->(getM h v).isSome=true)/\sumF A tp+sumF B vp=sumF A (fun x=>c x ((getM t x).getD 0))/\sumF A (fun x=>c x ((getM t x).getD 0))<=sumF A (fun x=>c x (f x)):=by
 have n:∀ x,InR x A->getM t x=some ((getM t x).getD 0):=fun x a=>by
  obtain⟨v,e⟩:=Wah.mp ((M.dom x).mpr a);rw [e];rfl
 have m:∀ {F G:Int->Int},(∀ x,InR x A->F x<=G x)->sumF A F<=sumF A G:=fun {F G} K=>zcE fun i b=>K _ ⟨#[94],by have:=Yba.mp b;lia⟩
 have q:∀ {F G:Int->Int},sumF A (fun x=>F x+G x)=sumF A F+sumF A G:=ze0
 have O:∀ i:Nat,i<B->InR (i:Int) B:=fun i b=>⟨#[94],#[94]⟩
 have U:∀ v,0<=p0 v:=fun v=>by
  rcases Wbt (due v) with z|z
  . rw [(o v).1 z];lia
  . rw [(o v).2 z];exact Wbz _
 obtain⟨p,C,J⟩:=zeY (A:=A) (B:=B) (fun x a=>(M.ot.get (n x a)).2) (fun x y a Y e=>by
  have s:=(M.mat _ _).mp (n x a);have H:=(M.mat _ _).mp (n y Y);rw [e,H] at s;exact(Wa3 s).symm) vp
 obtain⟨L2,L,W⟩:=zeY (A:=A) (B:=B) (g:=f) (fun x a=>I _ _ (Q x a)) w vp
 have r:∀ i∈p,getM h (i:Int)=none:=fun i b=>by
  cases e:getM h (i:Int) with
  | none=>rfl
  | some x=>
   have a:=(M.oh.get e).2;have:=(M.mat x (i:Int)).mpr e;exact absurd (by rw [this];rfl) (((J i).mp b).2 x a)
 have u:(p.map fun i:Nat=>vp (i:Int)).sum=(p.map fun i:Nat=>p0 (i:Int)).sum:=by
  congr 1
  exact Yat fun i b=>M.free _ (r i b)
 have s2:=by
  have:=zcE fun i b=>by
   obtain⟨s,H⟩:=(W i).mp b;have P:=M.top (i:Int);rw [(o (i:Int)).2 fun z=>by obtain⟨x,a,e⟩:=E _ (O i s) z;exact H x a e] at P
   exact P
  rw [zc8 fun _ _=>rfl] at this
  exact this
 have t1:sumF A tp+sumF A (fun x=>vp ((getM t x).getD 0))=sumF A (fun x=>c x ((getM t x).getD 0)):=by
  rw [<-q];refine Int.le_antisymm (m fun x a=>?_) (m fun x a=>?_)
  . exact Wl (M.ed x _ (n x a)).2
  . exact Wl (M.ed x _ (n x a)).2.symm
 have t2:sumF A tp+sumF A (fun x=>vp (f x))<=sumF A (fun x=>c x (f x)):=by
  rw [<-q];exact m fun x a=>M.low x _ a.1 a.2 (Q x a)
 have t3:sumF A (fun x=>c x (f x))<=(A:Int):=by
  have:=zf6 (l:=Xe A) (f:=fun i:Nat=>c (i:Int) (f (i:Int))) fun i _=>(R _ _).2
  rw [YaG] at this;exact this
 have t4:0<=sumF A (fun x=>c x ((getM t x).getD 0)):=(zdS (l:=Xe A) fun i _=>(R _ _).1).1
 obtain⟨p1,X⟩:=zdS (l:=p) (f:=fun i:Nat=>p0 (i:Int)) fun i _=>U _
 have j:∀ v,InR v B->due v->(getM h v).isSome=true:=fun v S Z=>by
  cases e:getM h v with
  | some _=>rfl
  | none=>
   exfalso
   obtain⟨v0,v1⟩:=S;have T:v.toNat∈p:=(J _).mpr ⟨#[94],fun x a z=>by
    have:=(M.mat x _).mp (n x a);rw [show(((v.toNat:Nat):Int))=v by lia] at z
    have z:(getM t x).getD 0=v:=z;rw [z,e] at this;cases this⟩
   have:=X _ T;rw [show(((v.toNat:Nat):Int))=v by lia,(o v).1 Z] at this
   rw [C,u] at L
   lia
 have N:=zc8 fun i b=>(o _).2 fun z=>by
  have:=j _ (O i ((J i).mp b).1) z;rw [r i b] at this;cases this
 refine⟨j,?_,?_⟩
 . rw [C,u,N];lia
 . rw [C,u,N] at L;lia
section
open PySem.Spec PyProof.Rows
structure MkD where
 dx:Addr
 aC:Addr
 aT:Addr
 aV:Addr
 aK:Addr
 aH:Addr
 dcs:List Addr
 cs:List Tb
 tp:List Int
 vp:List Int
 tk:Tb
 hd:Tb
noncomputable def mfs(M:MkD):List (Str×V):=[("costs", .ref M.aC),("turn_prices", .ref M.aT),("visit_prices", .ref M.aV),("taken", .ref M.aK),("holders", .ref M.aH)]
structure Mkt(C:Addr)(H:Hp)(m:Addr)(M:MkD):Prop where
 ins:H m=some (.ins C M.dx (mfs M))
 own:H M.dx=some (.own m)
 lc:H M.aC=some (.lst (M.dcs.map .ref))
 len:M.dcs.length=M.cs.length
 dc:∀ (i:Nat) d,M.dcs[i]?=some d->∃ o,H d=some (.frz o (.dK (encM (M.cs.getD i []))))
 lt:H M.aT=some (.lst (M.tp.map .int))
 lv:H M.aV=some (.lst (M.vp.map .int))
 dk:H M.aK=some (.dK (encM M.tk))
 dh:H M.aH=some (.dK (encM M.hd))
theorem Mkt.keep{m:Addr}{M:MkD}(k:Mkt C H m M)(s:∀ b o,H b=some o->(∀ f,o≠.ext f)->H' b=some o):Mkt C H' m M where
 ins:=s _ _ k.ins (by simp_all)
 own:=s _ _ k.own (by simp_all)
 lc:=s _ _ k.lc (by simp_all)
 len:=k.len
 dc:=fun i d e=>let ⟨o,h⟩:=k.dc i d e;⟨o,s _ _ h (by simp)⟩
 lt:=s _ _ k.lt (by simp_all)
 lv:=s _ _ k.lv (by simp_all)
 dk:=s _ _ k.dk (by simp_all)
 dh:=s _ _ k.dh (by simp_all)
noncomputable def zz(L:Int->Int->Int)(t:Int)(fc:Tb×Tb)(p:Int×Int):Tb×Tb:=
 match getM fc.1 p.1 with
 | none=>(putM fc.1 p.1 (L p.1 p.2),putM fc.2 p.1 t)
 | some x=>if L p.1 p.2<x then(putM fc.1 p.1 (L p.1 p.2),putM fc.2 p.1 t) else fc
theorem zbE(L:Int->Int->Int)(t:Int):∀ (l:Tb) (fc:Tb×Tb),(l.foldl (zz L t) fc).1.length<=fc.1.length+l.length/\(l.foldl (zz L t) fc).2.length<=fc.2.length+l.length
 | [],fc=>⟨YaY _,YaY _⟩
 | p :: r, fc => by
  have h:=zbE L t r (zz L t fc p);have b:(zz L t fc p).1.length<=fc.1.length+1/\(zz L t fc p).2.length<=fc.2.length+1:=by
   have a:∀ (d:Tb) (k v:Int),(putM d k v).length<=d.length+1:=fun d k v=>by
    unfold putM;split
    . grind
    simp_all
   unfold zz
   split
   . simp_all
   . split
     . simp_all
     simp_all
  grind
noncomputable def zG(M:MkD)(t g:Int)(v x:Int):Int:=g+x - M.tp.getD t.toNat 0 - M.vp.getD v.toNat 0
def zcO(C:Addr):Sp:=fun vs H Q E=>∃ m t g f c M far came,vs=[.ref m,.int t,.int g,.ref f,.ref c]/\Mkt C H m M/\0<=t/\t<(M.cs.length:Int)/\t<(M.tp.length:Int)/\(∀ p∈M.cs.getD t.toNat [],InR p.1 M.vp.length)/\
 H f=some (.dK (encM far))/\H c=some (.dK (encM came))/\f≠c/\far.length+(M.cs.getD t.toNat []).length<sizeLine/\came.length+(M.cs.getD t.toNat []).length<sizeLine/\
 ∀ H',zh (bar H [f,c]) H'->H' f=some (.dK (encM ((M.cs.getD t.toNat []).foldl (zz (zG M t g) t) (far,came)).1))->H' c=some (.dK (encM ((M.cs.getD t.toNat []).foldl (zz (zG M t g) t) (far,came)).2))->Q .non H'
theorem zmD(cl:Cls K C)(n1:zO K C "costs")(n2:zO K C "turn_prices")(n3:zO K C "visit_prices")(F:Fun K "look_from" "look_from" (top 50) f fd):FnOk P w K mg base (CXR P w) 1 f fd ["market", "turn", "gone", "far", "came"] (zcO C):=by
 have S:FnScope ["market", "turn", "gone", "far", "came", "visit", "cost", "length"] ["market", "turn", "gone", "far", "came"] (zg (top 50)):=⟨rfl,rfl,rfl,#[3],rfl,#[3],#[3]⟩
 refine F.okR S (fun vs H Q E h=>?_) (fun ag A ab s H vs Q E hr h=>?_)
 . obtain⟨_,_,_,_,_,_,_,_,rfl,_⟩:=h;rfl
 obtain⟨m,t,g,l,r,M,far,came,rfl,hM,t0,t1,t2,a3,hf,hc,Z,ah,ai,q⟩:=h
 have hu:=zT hr;refine⟨_,jf (ZR WaP rfl (znH (jI Jg (jB (pv 0) rfl) (pv 1) (fun _ _=>rfl))) (zch rfl (JS (jl (i:=5) S.nd rfl (.inl rfl)) (JS (jl (i:=6) S.nd rfl (.inl rfl)) zbQ)))
  (zL (jd (i:=7) S.nd rfl (.inl rfl) (Jn zaY (Jn zaY (Jn zdo (pv 2) (pv 6)) (jI Jg (jB (pv 0) rfl) (pv 1) (fun _ _=>rfl))) (jI Jg (jB (pv 0) rfl) (pv 5) (fun _ _=>rfl))))
   (jf (zex (PW.pt (ze8 (zae (zb3 hu (pv 5) (pv 3))) (zft (zbo zeS (pv 7) (jL hu (pv 3) (pv 5) (fun _ _=>rfl)) (nomark _))))) (zL (Jj hu (pv 3) (pv 5) (pv 7) rfl) (jf (Jj hu (pv 4) (pv 5) (pv 1) rfl))) zez)))),?_⟩
 have a1:t.toNat<M.dcs.length:=by rw [hM.len];omega
 obtain⟨o,ho⟩:=hM.dc t.toNat M.dcs[t.toNat] (YaQ a1);have ad:atI (M.dcs.map V.ref) t=some (.ref M.dcs[t.toNat]):=by
  have:=jb (xs:=M.dcs.map V.ref) (j:=t.toNat) (v:=.ref M.dcs[t.toNat]) (by rw [Ya0,YaQ a1];rfl)
  rwa [show((t.toNat:Nat):Int)=t by omega] at this
 have a5:atI (M.tp.map V.int) t=some (.int (M.tp.getD t.toNat 0)):=by
  have:=jb (xs:=M.tp.map V.int) (j:=t.toNat) (v:=.int (M.tp.getD t.toNat 0)) (by rw [Ya0,YaQ (show t.toNat<M.tp.length by omega),YaP,YaQ (show t.toNat<M.tp.length by omega)];rfl)
  rwa [show((t.toNat:Nat):Int)=t by omega] at this
 refine⟨.ref m,rfl,m,C,M.dx,mfs M,.ref M.aC,rfl,hM.ins,cl,n1,rfl,.int t,rfl,M.aC,_,t,.ref M.dcs[t.toNat],rfl,rfl,SqL.of hM.lc,ad,M.dcs[t.toNat],o,_,rfl,ho,?_⟩
 generalize af:M.cs.getD t.toNat []=c at *;refine⟨fun i n σ' I=>i<=c.length/\n=c.length - i/\(∃ O J L,σ'=[some (.ref m),some (.int t),some (.int g),some (.ref l),some (.ref r),O,J,L])/\zh (bar H [l,r]) I/\I l=some (.dK (encM ((c.take i).foldl (zz (zG M t g) t) (far,came)).1))/\I r=some (.dK (encM ((c.take i).foldl (zz (zG M t g) t) (far,came)).2)),
  ⟨_,Wby _,rfl,⟨none,none,none,rfl⟩,(Zd _ _).x,hf,hc⟩,?_⟩
 rintro i n σ' I ⟨hi,rfl,⟨O,J,L,rfl⟩,hs,h1,h2⟩
 have kp:∀ b R,H b=some R->(∀ kv,R≠.dK kv)->(∀ x,R≠.ext x)->I b=some R:=fun b R e n1 n2=>by
  refine hs.at ((z6 fun z=>?_).trans e) n2
  rcases Wbe.mp z with z|z
  . rw [z,hf] at e;exact n1 _ (Wa3 e).symm
  . rw [Ya6.mp z,hc] at e;exact n1 _ (Wa3 e).symm
 have hd:I M.dcs[t.toNat]=some (.frz o (.dK (encM c))):=kp _ _ ho (by intro kv z;cases z) (by intro x z;cases z)
 by_cases U:i<c.length
 . have hx:(L3.encM c)[i]?=some (Xn c[i].1,.int c[i].2):=by unfold L3.encM;rw [Ya0,YaQ U];rfl
   refine .inr ⟨⟨⟨_,hx⟩,hd⟩,fun T W=>(∃ O J L,T=[some (.ref m),some (.int t),some (.int g),some (.ref l),some (.ref r),O,J,L])/\zh (bar H [l,r]) W/\W l=some (.dK (encM ((c.take (i+1)).foldl (zz (zG M t g) t) (far,came)).1))/\W r=some (.dK (encM ((c.take (i+1)).foldl (zz (zG M t g) t) (far,came)).2)),fun T W z=>⟨c.length - (i+1),#[0],U,rfl,z⟩,?_⟩
   rintro x Y ⟨a,k,v,hn,rfl,hk,rfl⟩
   rw [hx] at hk;cases hk;have a2:c[i]∈c:=Ya4 U;have a9:c.take (i+1)=c.take i++[c[i]]:=by rw [WaQ,YaQ U];rfl
   rw [a9,WaN];have a8:(c.take i).length=i:=by rw [WaW];omega
   have B:=zbE (zG M t g) t (c.take i) (far,came);generalize (c.take i).foldl (zz (zG M t g) t) (far,came)=fc at h1 h2 B;obtain⟨u,G⟩:=fc;rw [a8] at B;have ae:u.length<sizeLine:=WaE B.1 (by show far.length+i<_;omega)
   have ac:G.length<sizeLine:=WaE B.2 (by show came.length+i<_;omega)
   generalize c[i]=p at a2;obtain⟨v,x⟩:=p;obtain⟨v0,v1⟩:=a3 _ a2;have v0:0<=v:=v0;have v1:v<(M.vp.length:Int):=v1;have a4:atI (M.vp.map V.int) v=some (.int (M.vp.getD v.toNat 0)):=by
    have:=jb (xs:=M.vp.map V.int) (j:=v.toNat) (v:=.int (M.vp.getD v.toNat 0)) (by rw [Ya0,YaQ (show v.toNat<M.vp.length by omega),YaP,YaQ (show v.toNat<M.vp.length by omega)];rfl)
    rwa [show((v.toNat:Nat):Int)=v by omega] at this
   have up:∀ b R,I b=some R->upd I a (.tup [kV (Xn v),.int x]) b=some R:=fun b R e=>by rw [zc (fun z=>by rw [z,hn] at e;cases e)];exact e
   have X:=up _ _ (kp _ _ hM.ins (by intro kv z;cases z) (by intro x z;cases z))
   have a7:=up _ _ (kp _ _ hM.lt (by intro kv z;cases z) (by intro x z;cases z))
   have a6:=up _ _ (kp _ _ hM.lv (by intro kv z;cases z) (by intro x z;cases z))
   have f3:=up _ _ h1;have c3:=up _ _ h2;have a0:=hs.trans (zx hn (.tup [kV (Xn v),.int x])).x;have bf:bar H [l,r] l=none:=jE (by simp)
   have bc:bar H [l,r] r=none:=jE (by simp)
   have hG:SqT K (upd I a (.tup [kV (Xn v),.int x])) a [.int v,.int x]:=SqT.of zf;generalize upd I a (.tup [kV (Xn v),.int x])=Y at *;refine⟨a,[.int v,.int x],rfl,hG,rfl,_,_,rfl,_,_,rfl,rfl,?_⟩;refine⟨.int g,rfl,.int x,rfl,g,x,rfl,rfl,.ref m,rfl,m,C,M.dx,mfs M,.ref M.aT,rfl,X,cl,n2,rfl,.int t,rfl,M.aT,_,t,_,rfl,rfl,SqL.of a7,a5,_,_,rfl,rfl,.ref m,rfl,m,C,M.dx,mfs M,.ref M.aV,rfl,X,cl,n3,rfl,.int v,rfl,M.aV,_,v,_,rfl,rfl,SqL.of a6,a4,_,_,rfl,rfl,?_⟩
   have aa:∀ (N:Prop),((∃ O J L,([some (V.ref m),some (.int t),some (.int g),some (.ref l),some (.ref r),some (.int v),some (.int x),some (.int (g+x - M.tp.getD t.toNat 0 - M.vp.getD v.toNat 0))]:List (Option V))=[some (.ref m),some (.int t),some (.int g),some (.ref l),some (.ref r),O,J,L])/\zh (bar H [l,r]) (upd (upd Y l (.dK (L3.encM (putM u v (zG M t g v x))))) r (.dK (L3.encM (putM G v t))))/\upd (upd Y l (.dK (L3.encM (putM u v (zG M t g v x))))) r (.dK (L3.encM (putM G v t))) l=some (.dK (L3.encM (putM u v (zG M t g v x))))/\upd (upd Y l (.dK (L3.encM (putM u v (zG M t g v x))))) r (.dK (L3.encM (putM G v t))) r=some (.dK (L3.encM (putM G v t)))->N)->N:=fun N k=>k ⟨⟨_,_,_,rfl⟩,(a0.chg bf f3 (by intro _ z;cases z)).chg bc ((zc Z.symm).trans c3) (by intro _ z;cases z),(zc Z).trans zf,zf⟩
   refine⟨.int v,rfl,.ref l,rfl,l,_,rfl,DGet.k (k:=Xn v) f3,_,rfl,?_⟩
   rw [jp];have go:zz (zG M t g) t (u,G) (v,x)=(putM u v (zG M t g v x),putM G v t)->∀ D:L2.Ends,D.nx=(fun T W=>(∃ O J L,T=[some (V.ref m),some (.int t),some (.int g),some (.ref l),some (.ref r),O,J,L])/\zh (bar H [l,r]) W/\W l=some (.dK (L3.encM (zz (zG M t g) t (u,G) (v,x)).1))/\W r=some (.dK (L3.encM (zz (zG M t g) t (u,G) (v,x)).2)))->
    tSeq (zcT (tVar 3) (tVar 5) (tVar 7)) (zcT (tVar 4) (tVar 5) (tVar 1)) D [some (V.ref m),some (.int t),some (.int g),some (.ref l),some (.ref r),some (.int v),some (.int x),some (.int (g+x - M.tp.getD t.toNat 0 - M.vp.getD v.toNat 0))] Y:=fun e D hD=>by
    refine⟨.int _,rfl,.ref l,rfl,.int v,rfl,l,_,rfl,DPut.k (k:=Xn v) f3 (by rw [Zu];exact ae),?_⟩
    refine⟨.int t,rfl,.ref r,rfl,.int v,rfl,r,_,rfl,DPut.k (k:=Xn v) ((zc Z.symm).trans c3) (by rw [Zu];exact ac),?_⟩
    rw [hD,Ze,Ze,e];exact aa _ id
   have no:zz (zG M t g) t (u,G) (v,x)=(u,G)->(∃ O J L,([some (V.ref m),some (.int t),some (.int g),some (.ref l),some (.ref r),some (.int v),some (.int x),some (.int (g+x - M.tp.getD t.toNat 0 - M.vp.getD v.toNat 0))]:List (Option V))=[some (.ref m),some (.int t),some (.int g),some (.ref l),some (.ref r),O,J,L])/\zh (bar H [l,r]) Y/\Y l=some (.dK (L3.encM (zz (zG M t g) t (u,G) (v,x)).1))/\Y r=some (.dK (L3.encM (zz (zG M t g) t (u,G) (v,x)).2)):=fun e=>by
    rw [e];exact⟨⟨_,_,_,rfl⟩,a0,f3,c3⟩
   cases hg:getM u v with
   | none=>exact go (by unfold zz;dsimp only;rw [hg]) _ rfl
   | some y=>
    refine⟨.int _,rfl,.ref l,rfl,.int v,rfl,l,.int y,rfl,by have:=DGet.k (k:=Xn v) f3;rw [jp,hg] at this;exact this,_,_,rfl,rfl,_,rfl,?_⟩
    by_cases hy:zG M t g v x<y
    . show if decide (zG M t g v x<y)=true then _ else _
      rw [if_pos (decide_eq_true hy)];exact go (by unfold zz;dsimp only;rw [hg];dsimp only;rw [if_pos hy]) _ rfl
    . show if decide (zG M t g v x<y)=true then _ else _
      rw [if_neg (by rw [decide_eq_false hy];decide)]
      exact no (by unfold zz;dsimp only;rw [hg];dsimp only;rw [if_neg hy])
 . have e:i=c.length:=#[0]
   subst e;rw [YaH] at h1 h2;refine .inl ⟨⟨by unfold L3.encM;rw [YaR],hd⟩,q I hs h1 h2⟩
theorem zdm(h:PS X st t):PS X st (fun B σ H=>∃ l kvs,H l=some (.dK kvs)/\∀ o,t B σ (upd H l (.frz o (.dK kvs)))):=fun b s σ H B I a=>by
 obtain⟨l,kvs,c,q⟩:=a;obtain⟨o,e⟩:=I.frzK c;exact h _ s σ _ B e (q o)
noncomputable def pay1(far hd:Tb)(w:Int)(p:List Int×List Int)(k:Int):List Int×List Int:=
 (p.1.set ((getM hd k).getD 0).toNat (p.1.getD ((getM hd k).getD 0).toNat 0+(w - (getM far k).getD 0)),p.2.set k.toNat (p.2.getD k.toNat 0 - (w - (getM far k).getD 0)))
theorem zcB(a b:Tb)(w:Int):∀ (ks:List Int) (p:List Int×List Int),(ks.foldl (pay1 a b w) p).1.length=p.1.length/\(ks.foldl (pay1 a b w) p).2.length=p.2.length
 | [],p=>⟨rfl,rfl⟩
 | k :: r, p => by
  have:=zcB a b w r (pay1 a b w p k);rw [Xo,this.1,this.2];exact⟨YaN,YaN⟩
theorem zd2{xs:List Int}(h:InR k xs.length):atI (xs.map V.int) k=some (.int (xs.getD k.toNat 0)):=by
 obtain⟨b,a⟩:=h;have:=jb (xs:=xs.map V.int) (j:=k.toNat) (v:=.int (xs.getD k.toNat 0)) (by simp_all)
 grind
noncomputable def encK(ks:List Int):List (Key×V):=ks.map fun k=>(Xn k,V.bl true)
def zcp(C:Addr):Sp:=fun vs H Q E=>∃ m s w f d M far ks,vs=[.ref m,.int s,.int w,.ref f,.ref d]/\Mkt C H m M/\InR s M.tp.length/\H f=some (.dK (encM far))/\H d=some (.dK (encK ks))/\(∀ k∈ks,InR k M.vp.length/\∃ r y,getM M.hd k=some r/\getM far k=some y/\InR r M.tp.length)/\M.aT≠M.aV/\d≠f/\d≠M.aH/\
 ∀ H',zh (bar H [M.aT,M.aV,d]) H'->H' M.aT=some (.lst ((ks.foldl (pay1 far M.hd w) (M.tp.set s.toNat (M.tp.getD s.toNat 0+w),M.vp)).1.map .int))->H' M.aV=some (.lst ((ks.foldl (pay1 far M.hd w) (M.tp.set s.toNat (M.tp.getD s.toNat 0+w),M.vp)).2.map .int))->Q .non H'
theorem zlG(cl:Cls K C)(n2:zO K C "turn_prices")(n3:zO K C "visit_prices")(n4:zO K C "holders")(F:Fun K "change_prices" "change_prices" (top 52) f fd):FnOk P w K mg base (CXR P w) 1 f fd ["market", "start", "whole", "far", "done"] (zcp C):=by
 have S:FnScope ["market", "start", "whole", "far", "done", "visit"] ["market", "start", "whole", "far", "done"] (zg (top 52)):=⟨rfl,rfl,rfl,#[3],rfl,#[3],#[3]⟩
 refine F.okR S (fun vs H Q E h=>?_) (fun ab A a9 s H vs Q E hr h=>?_)
 . obtain⟨_,_,_,_,_,_,_,_,rfl,_⟩:=h;rfl
 refine Hd fun V ζ=>?_;obtain⟨m,s,w,T,d,M,far,a,rfl,c,J,hf,hd,hk,u,a3,a7,q⟩:=h;apply ζ
 have hu:=zT hr;refine⟨_,zL (zdV (jB (pv 0) rfl) (pv 1) zdz (pv 2) zdR za2) (jf (zdm (ZR WaP rfl (zee (pv 4)) (jl (i:=5) S.nd rfl (.inl rfl))
  (zL (zdV (jB (pv 0) rfl) (jL hu (jB (pv 0) rfl) (pv 5) (fun _ _=>rfl)) zdz (Jn zaY (pv 2) (jL hu (pv 3) (pv 5) (fun _ _=>rfl))) zdR za2)
   (jf (zdV (jB (pv 0) rfl) (pv 5) zdz (Jn zaY (pv 2) (jL hu (pv 3) (pv 5) (fun _ _=>rfl))) zli za2)))))),?_⟩
 have I:M.aT≠d:=fun z=>by have:=c.lt;rw [z,hd] at this;cases this
 have a0:M.aV≠d:=fun z=>by have:=c.lv;rw [z,hd] at this;cases this
 refine⟨.ref m,rfl,m,C,M.dx,mfs M,.ref M.aT,rfl,c.ins,cl,n2,rfl,.int s,rfl,M.aT,_,s,_,rfl,rfl,J.1,SqL.of c.lt,zd2 J,.int w,rfl,_,_,rfl,rfl,M.aT,_,s,s.toNat,rfl,rfl,c.lt,JJ J.1 (by rw [YaR];exact J.2),d,_,(zc I.symm).trans hd,fun o=>?_⟩
 have hb:bar H [M.aT,M.aV,d] M.aT=none:=jE (by simp)
 have a4:bar H [M.aT,M.aV,d] M.aV=none:=jE (by simp)
 have a8:bar H [M.aT,M.aV,d] d=none:=jE (by simp)
 refine⟨.ref d,rfl,d,o,_,rfl,zf,fun i n σ' N=>i<=a.length/\n=a.length - i/\(∃ t5,σ'=[some (.ref m),some (.int s),some (.int w),some (.ref T),some (.ref d),t5])/\zh (bar H [M.aT,M.aV,d]) N/\N d=some (.frz o (.dK (encK a)))/\N M.aT=some (.lst (((a.take i).foldl (pay1 far M.hd w) (M.tp.set s.toNat (M.tp.getD s.toNat 0+w),M.vp)).1.map .int))/\N M.aV=some (.lst (((a.take i).foldl (pay1 far M.hd w) (M.tp.set s.toNat (M.tp.getD s.toNat 0+w),M.vp)).2.map .int)),
  ⟨_,Wby _,rfl,⟨none,rfl⟩,((Zd _ _).x.chg hb c.lt (by intro _ z;cases z)).chg a8 ((zc I.symm).trans hd) (by intro _ z;cases z),zf,?_,?_⟩,?_⟩
 . rw [zc I,zf,Ub,XJ,Wbu]
 . rw [zc a0,zc u.symm];exact c.lv
 intro i n σ' N ξ;refine Hd fun V ζ=>?_;obtain⟨hi,rfl,⟨t5,rfl⟩,hs,h0,X,W⟩:=ξ;apply ζ
 have kp:∀ b O,H b=some O->b≠M.aT->b≠M.aV->b≠d->(∀ x,O≠.ext x)->N b=some O:=fun b O e e1 e2 e3 n2=>hs.at ((z6 fun z=>by
  rcases Wbe.mp z with z|z
  . exact e1 z
  . rcases Wbe.mp z with z|z
    . exact e2 z
    . exact e3 (Ya6.mp z)).trans e) n2
 by_cases L:i<a.length
 . have hx:(encK a)[i]?=some (Xn a[i],.bl true):=by unfold encK;rw [Ya0,YaQ L];rfl
   refine .inr ⟨⟨⟨_,hx⟩,h0⟩,_,fun σ2 H2 z=>⟨a.length - (i+1),#[94],L,rfl,z⟩,?_⟩
   rintro x H3 ⟨e3,k,v,Y,rfl⟩
   have e3:=e3.symm;subst e3;rw [hx] at Y;cases Y;have a1:a[i]∈a:=Ya4 L;have a6:a.take (i+1)=a.take i++[a[i]]:=by rw [WaQ,YaQ L];rfl
   rw [a6,WaN];have g:=zcB far M.hd w (a.take i) (M.tp.set s.toNat (M.tp.getD s.toNat 0+w),M.vp);generalize (a.take i).foldl (pay1 far M.hd w) (M.tp.set s.toNat (M.tp.getD s.toNat 0+w),M.vp)=fc at X W g;obtain⟨T1,V1⟩:=fc;rw [YaN] at g;generalize a[i]=k at a1;obtain⟨j,r,y,Z,U,p⟩:=hk _ a1;have p:InR r T1.length:=by rw [show T1.length=_ from g.1];exact p
   have j:InR k V1.length:=by rw [show V1.length=_ from g.2];exact j
   have R:∀ {b:Addr} {O:HO},H b=some O->(∀ l,O≠.lst l)->b≠M.aT/\b≠M.aV:=fun {b O} e n=>⟨fun z=>by rw [z,c.lt] at e;exact n _ (Wa3 e).symm,fun z=>by rw [z,c.lv] at e;exact n _ (Wa3 e).symm⟩
   have B:N m=_:=kp _ _ c.ins (R c.ins (by intro _ z;cases z)).1 (R c.ins (by intro _ z;cases z)).2 (fun z=>by have:=c.ins;rw [z,hd] at this;cases this) (by intro x z;cases z)
   have f3:=kp _ _ hf (R hf (by intro _ z;cases z)).1 (R hf (by intro _ z;cases z)).2 a3.symm (by intro x z;cases z)
   have a5:=kp _ _ c.dh (R c.dh (by intro _ z;cases z)).1 (R c.dh (by intro _ z;cases z)).2 a7.symm (by intro x z;cases z)
   have aa:=(R c.ins (by intro _ z;cases z)).1
   have a2:=(R hf (by intro _ z;cases z)).1
   have g1:∀ {G:Hp},G T=some (.dK (encM far))->DGet G T (.int k) (some (.int y)):=fun e=>by have:=DGet.k (k:=Xn k) e;rwa [jp,U] at this
   have g2:∀ {G:Hp},G M.aH=some (.dK (encM M.hd))->DGet G M.aH (.int k) (some (.int r)):=fun e=>by have:=DGet.k (k:=Xn k) e;rwa [jp,Z] at this
   refine⟨.ref m,rfl,m,C,M.dx,mfs M,.ref M.aT,rfl,B,cl,n2,rfl,.ref m,rfl,m,C,M.dx,mfs M,.ref M.aH,rfl,B,cl,n4,rfl,.int k,rfl,M.aH,_,rfl,g2 a5,M.aT,_,r,_,rfl,rfl,p.1,SqL.of X,zd2 p,.int w,rfl,.ref T,rfl,.int k,rfl,T,_,rfl,g1 f3,_,_,rfl,rfl,_,_,rfl,rfl,M.aT,_,r,r.toNat,rfl,rfl,X,JJ p.1 (by rw [YaR];exact p.2),?_⟩
   refine⟨.ref m,rfl,m,C,M.dx,mfs M,.ref M.aV,rfl,(zc aa).trans B,cl,n3,rfl,.int k,rfl,M.aV,_,k,_,rfl,rfl,j.1,SqL.of ((zc u.symm).trans W),zd2 j,.int w,rfl,.ref T,rfl,.int k,rfl,T,_,rfl,g1 ((zc a2).trans f3),_,_,rfl,rfl,_,_,rfl,rfl,M.aV,_,k,k.toNat,rfl,rfl,(zc u.symm).trans W,JJ j.1 (by rw [YaR];exact j.2),?_⟩
   refine⟨⟨_,rfl⟩,(hs.chg hb X (by intro _ z;cases z)).chg a4 ((zc u.symm).trans W) (by intro _ z;cases z),?_,?_,?_⟩
   . rw [zc a0.symm,zc I.symm];exact h0
   . rw [zc u,zf,Xo,XJ]
     unfold pay1;rw [Z,U,Wbu];rfl
   . rw [zf,Xo,XJ]
     unfold pay1;rw [U,Wbu];rfl
 . have e:i=a.length:=#[94]
   subst e;rw [YaH] at X W;exact .inl ⟨⟨by unfold encK;rw [YaR],h0⟩,q N hs X W⟩
def zlC(X:Cx)(t:TE):TE:=fun σ H Q=>t σ H fun v H1=>∃ l o kvs,H1 l=some (.frz o (.dK kvs))/\(∀ o u,X.H₀ l≠some (.frz o u))/\Q v (upd H1 l (.dK kvs))
theorem zmq(h:PE X e t):PE X e (zlC X t):=fun b s σ H Q I a=>
 wpAny_mono (h _ s σ H _ I a) (fun v p zz0 => by obtain ⟨x,n,c,g,l,o,m,i,j,q⟩ := zz0; exact ⟨x,_,c.thawK i j,g,q⟩) fun _ _ z=>z
theorem ziW:(valV (encK ks) (Xn k)).isSome=decide (k∈ks):=by
 unfold valV encK
 grind
theorem zbi(h:k∈t.map (·.1)):∃ y,getM t k=some y:=by
 unfold getM;cases e:t.find? _ with
 | some p=>simp
 | none=>
  grind
noncomputable def sel(ks:List Int)(t:Tb):List Int:=(t.map (·.1)).filter fun k=>!decide (k∈ks)
theorem zaR:k∈sel ks t↔k∈t.map (·.1)/\k∉ks:=by unfold sel;rw [Ya9];simp
def zdg(tb:Addr):Sp:=fun vs H Q E=>∃ f d far ks,vs=[.ref f,.ref d]/\TabU tb H/\H f=some (.dK (encM far))/\H d=some (.dK (encK ks))/\f≠d/\far.length<sizeLine/\(∃ v y,getM far v=some y/\v∉ks)/\
 ∀ v y H',getM far v=some y->v∉ks->(∀ u z,getM far u=some z->u∉ks->y<=z)->zh H H'->Q (.int v) H'
theorem zkh(M:lamP=LamW.pos)(a9:lamQ=LamW.q)(hC:Yf base c0 tb)(hB:BMod mg base)(hm:mg "min" = none)(F:Fun K "nearest" "nearest" jW f fd)(r:fd.code=.ref c0):FnOk P w K mg base (CXR P w) 4 f fd ["far", "done"] (zdg tb):=by
 have S:FnScope ["far", "done"] ["far", "done"] (zg jW):=⟨rfl,rfl,rfl,#[3],rfl,#[3],#[3]⟩
 obtain⟨oc,od,kV,ad,pm,an,a3,ct,ab,rfl,lk,J⟩:=F.ex;have r:a3=.ref c0:=r;subst r;refine zbB lk J S (fun vs H Q E h=>?_) (fun A a7 s H vs Q E hr h=>?_)
 . obtain⟨_,_,_,_,rfl,_⟩:=h;rfl
 obtain⟨a,d,far,B,rfl,tu,X,hd,a0,aa,⟨v0,y0,a4,U⟩,q⟩:=h;have hu:=zT hr;refine⟨_,jf (zdm (J4 (zmq (ziz (it:=0) (k:=1) M a9 ⟨.of #[3] rfl rfl rfl rfl rfl trivial,#[1],rfl,rfl,rfl,hC,rfl,hB,rfl,rfl,fun _ _ _ _=>rfl⟩ (hr.mono #[1])
  (zaP ["visit"] ["done"] [1] rfl (z0 (osc:=zg jW) #[3]) rfl (zee (pv 0)) (fun s H fp cl=>⟨jl (i:=0) (show((["visit"]:List Xk)++(["done"]:List Xk)).Nodup by decide) rfl (.inl rfl),zd8 (zae (zb3 hu (pv 0) (pv 1))),pv 0⟩))
  (fun f ac s H' hr=>jL (zT hr) (pv 1) (pv 0) (fun _ _=>rfl)) rfl hm)))),?_⟩
 refine⟨a,_,X,fun o=>⟨.ref a,rfl,a,o,_,rfl,zf,fun D G=>?_⟩⟩
 have p:D≠a:=(fun z=>by rw [z,zf] at G;cases G)
 have G:H D=none:=by rwa [zc p] at G
 have a8:d≠D:=(fun z=>by rw [z,G] at hd;cases hd)
 refine⟨fun i m ys R O=>i<=far.length/\m=far.length - i/\(∃ t0,R=[t0,some (.ref d)])/\ys=(sel B (far.take i)).map .int/\O D=some (.lst ys)/\O a=some (.frz o (.dK (encM far)))/\∀ b,b≠D->b≠a->O b=H b,
  ⟨_,Wby _,rfl,⟨none,rfl⟩,rfl,zf,(zc p.symm).trans zf,fun b Z b2=>by rw [zc Z,zc b2]⟩,?_⟩
 rintro i m ys R O ⟨hi,rfl,⟨t0,rfl⟩,rfl,h1,C,h3⟩
 by_cases l:i<far.length
 . have hx:(L3.encM far)[i]?=some (Xn far[i].1,.int far[i].2):=by unfold L3.encM;rw [Ya0,YaQ l];rfl
   refine .inr ⟨⟨⟨_,hx⟩,C⟩,?_⟩
   rintro x H3 ⟨e3,k,v,L,rfl⟩
   have e3:=e3.symm;subst e3;rw [hx] at L;cases L;have a6:far.take (i+1)=far.take i++[far[i]]:=by rw [WaQ,YaQ l];rfl
   have a5:=(h3 d a8 a0.symm).trans hd;have g:sel B (far.take (i+1))=sel B (far.take i)++if far[i].1∈B then [] else [far[i].1]:=by
    unfold sel;rw [a6,Ya2,WaG]
    by_cases e:far[i].1∈B
    . rw [if_pos e];simp [e]
    . rw [if_neg e];simp [e]
   generalize far[i].1=k at g;refine⟨.int k,rfl,.ref d,rfl,d,_,rfl,DGet.k (k:=Xn k) a5,_,rfl,?_⟩;rw [ziW]
   by_cases hk:k∈B
   . rw [decide_eq_true hk]
     show if(!true)=true then _ else _
     rw [if_neg #[1]]
     rw [if_pos hk,Yao] at g;exact⟨far.length - (i+1),#[94],l,rfl,⟨_,rfl⟩,by rw [g],h1,C,h3⟩
   . rw [decide_eq_false hk]
     show if(!false)=true then _ else _
     rw [if_pos #[1]]
     rw [if_neg hk] at g;refine⟨.int k,rfl,h1,?_,far.length - (i+1),#[94],l,rfl,⟨_,rfl⟩,by rw [g,Ya2];rfl,zf,(zc p.symm).trans C,fun b Z b2=>by rw [zc Z];exact h3 b Z b2⟩
     unfold sel;rw [YaR];refine WaE (Waw _ _) ?_;rw [YaR,WaW]
     lia
 . have e:i=far.length:=#[94]
   subst e;rw [YaH] at h1;have j:∀ b I,H b=some I->b≠a->O b=some I:=fun b I e n=>(h3 b (fun z=>by rw [z,G] at e;cases e) n).trans e
   have c:∀ b x,H b=some (.ext x)->b≠a:=fun b x e z=>by rw [z,X] at e;cases e
   refine .inl ⟨⟨by unfold L3.encM;rw [YaR],C⟩,?_,D,sel B far,.ref a,fun n=>(getM far n).getD 0,rfl,h1,?_,rfl,fun n hn H3 Y=>?_,fun n H3 hn N Y=>?_⟩
   . rcases tu with tu|⟨c',a1,a2⟩
     . exact .inl (j _ _ tu (c _ _ tu))
     . exact .inr ⟨c',j _ _ a1 (c _ _ a1),j _ _ a2 (c _ _ a2)⟩
   . exact YaO (zaR.mpr ⟨zaZ (by rw [a4];rfl),U⟩)
   . obtain⟨y,W⟩:=zbi (zaR.mp hn).1
     refine⟨.ref a,rfl,.int n,rfl,a,.int y,rfl,.inl ⟨L3.encM far,Xn n,.inr ⟨o,Y.at C⟩,rfl,by rw [jp,W];rfl⟩,by show V.int y=V.int ((getM far n).getD 0);rw [W];rfl,zh.refl _⟩
   . obtain⟨y,W⟩:=zbi (zaR.mp hn).1
     have T:=Y.at C;refine⟨a,o,_,T,fun o u z=>(by have z:H a=_:=z;rw [X] at z;cases z),q n y _ W (zaR.mp hn).2 (fun u z hz hu=>?_) fun b I e=>?_⟩
     . have:(getM far n).getD 0<=(getM far u).getD 0:=N u (zaR.mpr ⟨zaZ (by rw [hz];rfl),hu⟩)
       rwa [W,hz] at this
     . by_cases hb:b=a
       . subst hb
         rw [X] at e;cases e;exact .inl zf
       . rw [zc hb]
         rcases Y b I (j b I e hb) with z|⟨z1,z2,c',z3,z4⟩
         . exact .inl z
         . refine .inr ⟨z1,z2,c',by rw [zc hb];exact z3,?_⟩
           rw [zc (fun z=>by rw [z,T] at z4;cases z4)]
           exact z4
theorem WayP.way{P:Int->Prop}{r:Int->Nat}{start:Int}(w:WayP P Ed ca t r start A B):∃ ca',(∀ c s,getM ca' c=some s↔P c/\getM ca c=some s)/\Way Ed ca' t r start A B:=by
 have q:∀ c,Decidable (P c):=fun _=>X3 _
 have b:∀ c s,getM _ c=some s↔P c/\getM ca c=some s:=fun c s=>by
  unfold getM;rw [List.find?_filter]
  by_cases j:P c
  . rw [show(fun a:Int×Int=>decide (decide (P a.1)=true/\decide _=true))=fun a=>decide (a.1=c) from funext fun a=>by
     omega]
    exact⟨fun z=>⟨j,z⟩,fun z=>z.2⟩
  . rw [show(fun a=>decide _)=fun _=>false from funext fun a=>by
     grind]
    refine⟨fun z=>?_,fun z=>absurd z.1 j⟩
    rw [WA.mpr (by simp)] at z
    cases z
 refine⟨_,b,fun c s e=>?_,fun c s e=>?_,fun c s l e i=>?_,fun c s e i=>?_⟩
 . obtain⟨h,g⟩:=(b c s).mp e;exact w.inn c s h g
 . obtain⟨h,g⟩:=(b c s).mp e;exact w.ed c s h g
 . obtain⟨h,g⟩:=(b c s).mp e
   obtain⟨n,o,m,p⟩:=w.back c s l h g i
   simp_all
 . obtain⟨h,g⟩:=(b c s).mp e;exact w.first c s h g i
def spMove:Sp:=fun vs H Q E=>∃ (x:Int) (a1 a2 a3:Addr) (ca ca' t h:Tb) (Ed:Int->Int->Prop) (r:Int->Nat) (start:Int) (A B m:Nat),vs=[.int x,.ref a1,.ref a2,.ref a3]/\(∀ c s,getM ca' c=some s->getM ca c=some s)/\Way Ed ca' t r start A B/\OnWay Ed ca' t h t h r x A B m/\A<=2000/\B<=2000/\
 H a1=some (.dK (encM ca))/\H a2=some (.dK (encM t))/\H a3=some (.dK (encM h))/\a1≠a2/\a1≠a3/\a2≠a3/\
 ∀ t' h' H',Moved Ed t h t' h' start A B->zh (bar H [a2,a3]) H'->H' a2=some (.dK (encM t'))->H' a3=some (.dK (encM h'))->Q .non H'
theorem zlL(F:Fun K "move_along" "move_along" zce f fd):FnOk P w K mg base (CXR P w) 1 f fd ["choice", "came", "taken", "holders"] spMove:=by
 have S:FnScope ["choice", "came", "taken", "holders", "taker", "former"] ["choice", "came", "taken", "holders"] (zg zce):=⟨rfl,rfl,rfl,#[3],rfl,#[3],#[3]⟩
 refine F.okR S (fun vs H Q E h=>?_) (fun a4 A X s H vs Q E hr h=>?_)
 . refine Hd fun ζ ξ=>?_;obtain⟨_,_,_,_,_,_,_,_,_,_,_,_,_,_,rfl,_⟩:=h;apply ξ;rfl
 refine Hd fun ζ ξ=>?_;obtain⟨x,B,a,b,ca,N,t,h,Z,r,o,A',B',m,rfl,G,hw,u,hA,hB,h1,h2,h3,O,T,p,q⟩:=h;apply ξ
 have L:=zT hr;refine⟨_,jf (zdl WaP (zae (zmp (pv 0))) (zL (jd (i:=4) S.nd rfl (.inl rfl) (jL L (pv 1) (pv 0) (fun _ _=>rfl)))
  (zL (jd (i:=5) S.nd rfl (.inl rfl) (zev L (pv 2) (pv 4) ⟨rfl,rfl,rfl,rfl⟩)) (zL (Jj L (pv 2) (pv 4) (pv 0) rfl) (zL (Jj L (pv 3) (pv 0) (pv 4) rfl)
   (jf (jd (i:=0) S.nd rfl (.inl rfl) (pv 5)))))))),?_⟩
 have b2:bar H [a,b] a=none:=jE (by simp)
 have b3:bar H [a,b] b=none:=jE (by simp)
 refine⟨fun k n g=>((∃ (x:Int) (c l:Tb) (C J:Option V) (j:Nat),n=[some (.int x),some (.ref B),some (.ref a),some (.ref b),C,J]/\OnWay Z N t h c l r x A' B' j/\k=j+1/\g a=some (.dK (encM c))/\g b=some (.dK (encM l)))\/∃ (c l:Tb) (C J:Option V),n=[some .non,some (.ref B),some (.ref a),some (.ref b),C,J]/\Moved Z t h c l o A' B'/\g a=some (.dK (encM c))/\g b=some (.dK (encM l)))/\zh (bar H [a,b]) g,
  ⟨m+1,.inl ⟨x,t,h,none,none,m,rfl,u,rfl,h2,h3⟩,(Zd _ _).x⟩,?_⟩
 rintro k n g ⟨⟨x,c,l,C,J,j,rfl,u,rfl,v,M⟩|⟨c,l,C,J,rfl,hm,v,M⟩,R⟩
 . obtain⟨s,I,_⟩:=u.came
   obtain⟨Y,U⟩:=u.step hw I;have l1:=u.ot.len;have l2:=u.oh.len;have g1:g B=some (.dK (encM ca)):=R.at ((z6 (by simp [O,T])).trans h1)
   refine⟨.int x,rfl,_,rfl,?_⟩
   refine⟨_,fun n g z=>z,?_⟩
   refine⟨.ref B,rfl,.int x,rfl,B,.int s,rfl,by have:=DGet.k (k:=Xn x) g1;rwa [jp,G _ _ I] at this,?_⟩
   refine⟨.ref a,rfl,a,rfl,.inl ⟨_,.inl v⟩,.int s,rfl,_,DGet.k (k:=Xn s) v,?_⟩
   refine⟨.int x,rfl,.ref a,rfl,.int s,rfl,a,_,rfl,DPut.k (k:=Xn s) v (by rw [Zu];exact YaU (show _<1000000 by omega) #[1]),?_⟩
   refine⟨.int s,rfl,.ref b,rfl,.int x,rfl,b,_,rfl,DPut.k (k:=Xn x) ((zc p.symm).trans M) (by rw [Zu];exact YaU (show _<1000000 by omega) #[1]),?_⟩
   rw [Ze,Ze,jp];have y:zh (bar H [a,b]) (upd (upd g a (.dK (L3.encM (putM c s x)))) b (.dK (L3.encM (putM l x s)))):=(R.chg b2 v (by intro _ z;cases z)).chg b3 ((zc p.symm).trans M) (by intro _ z;cases z)
   have e2:upd (upd g a (.dK (L3.encM (putM c s x)))) b (.dK (L3.encM (putM l x s))) a=some (.dK (L3.encM (putM c s x))):=(zc p).trans zf;cases e:getM c s with
   | none=>exact⟨.non,rfl,0,#[0],.inr ⟨_,_,_,_,rfl,Y e,e2,zf⟩,y⟩
   | some W=>
    obtain⟨m',a0,o'⟩:=U W e;exact⟨.int W,rfl,m'+1,#[0],.inl ⟨W,_,_,_,_,m',rfl,o',rfl,e2,zf⟩,y⟩
 . refine⟨.non,rfl,_,rfl,?_⟩
   show if(!decide (V.non=V.non))=true then _ else _
   rw [if_neg (by rw [decide_eq_true rfl];decide)]
   exact q c l g hm R v M
noncomputable def at0(l:List Int)(x:Int):Int:=if 0<=x then l.getD x.toNat 0 else 0
theorem Jk{l:List Int}{i:Int}(h:InR i l.length):at0 (l.set i.toNat a) x=if x=i then a else at0 l x:=by
 obtain⟨c,b⟩:=h;unfold at0
 grind
theorem zel{p:Int×Int}(h:v≠p.1):getM (zz L t fc p).1 v=getM fc.1 v/\getM (zz L t fc p).2 v=getM fc.2 v:=by
 have e:∀ (d:Tb) (y:Int),getM (putM d p.1 y) v=getM d v:=fun d y=>by rw [zV,if_neg (WbA h)]
 unfold zz
 split
 . simp_all
 . split
   . simp_all
   simp
theorem ze6(L:Int->Int->Int)(t:Int):∀ (its:Tb) (fc:Tb×Tb),(its.map (·.1)).Nodup->∀ v,
 (v∉its.map (·.1)->getM (its.foldl (zz L t) fc).1 v=getM fc.1 v/\getM (its.foldl (zz L t) fc).2 v=getM fc.2 v)/\
 ∀ x,(v,x)∈its->(∃ y,getM fc.1 v=some y/\y<=L v x/\getM (its.foldl (zz L t) fc).1 v=some y/\getM (its.foldl (zz L t) fc).2 v=getM fc.2 v)\/
  ((∀ y,getM fc.1 v=some y->L v x<y)/\getM (its.foldl (zz L t) fc).1 v=some (L v x)/\getM (its.foldl (zz L t) fc).2 v=some t)
 | [],fc,_,v=>⟨fun _=>⟨rfl,rfl⟩,fun x h=>by cases h⟩
 | p :: r, fc, nd, v => by
  rw [Ya1,YaB] at nd;obtain⟨o,s⟩:=nd;have j:=ze6 L t r (zz L t fc p) s v;rw [Xo];refine⟨fun a=>?_,fun x u=>?_⟩
  . rw [Ya1,Wbe,not_or] at a
    obtain⟨l,m⟩:=j.1 a.2;obtain⟨i,c⟩:=zel (t:=t) a.1;exact⟨l.trans i,m.trans c⟩
  . by_cases a:v=p.1
    . have g:=a ▸ o
      obtain⟨l,m⟩:=j.1 g;have n:x=p.2:=by
       grind
      rw [l,m];have a:=a.symm;obtain⟨k,z⟩:=p;subst a n;unfold zz;cases e:getM fc.1 k with
      | none=>exact .inr ⟨fun y b=>(by cases b),by rw [zV,if_pos rfl],by rw [zV,if_pos rfl]⟩
      | some y=>
       by_cases b:L k x<y
       . dsimp only
         rw [if_pos b];exact .inr ⟨fun w q=>by rw [<-Wa3 q];exact b,by rw [zV,if_pos rfl],by rw [zV,if_pos rfl]⟩
       . dsimp only
         rw [if_neg b];exact .inl ⟨y,rfl,#[94],e,rfl⟩
    . obtain⟨i,c⟩:=zel (L:=L) (p:=p) a
      have:=j.2 x (by
       grind)
      rw [i,c] at this;exact this
def ChM(M:MkD)(x v:Int):Prop:=InR x M.cs.length/\(getM (M.cs.getD x.toNat []) v).isSome=true
noncomputable def cM(M:MkD)(x v:Int):Int:=(getM (M.cs.getD x.toNat []) v).getD 0
theorem looked{M:MkD}{g:Int}{far came:Tb}(a:InR t M.cs.length)(j:((M.cs.getD t.toNat []).map (·.1)).Nodup)(n:∀ v,ChM M t v->0<=v):Looked (ChM M) (cM M) (at0 M.tp) (at0 M.vp) t g far came ((M.cs.getD t.toNat []).foldl (zz (zG M t g) t) (far,came)).1 ((M.cs.getD t.toNat []).foldl (zz (zG M t g) t) (far,came)).2:=fun v=>by
 have h:=ze6 (zG M t g) t _ (far,came) j v;refine⟨fun i=>h.1 fun l=>i ⟨a,?_⟩,fun b=>?_⟩
 . obtain⟨y,e⟩:=zbi l;rw [e];rfl
 . obtain⟨x,e⟩:=Wah.mp b.2
   have c:=n v b;have:=h.2 x (JQ e);have m:zG M t g v x=g+cM M t v - at0 M.tp t - at0 M.vp v:=by unfold zG cM at0;rw [e,if_pos a.1,if_pos c];rfl
   rw [m] at this;exact this
theorem zfy(c e:Tb)(w:Int):∀ (ks:List Int) (T V:List Int),ks.Nodup->(∀ k∈ks,InR k V.length/\∃ r y,getM e k=some r/\getM c k=some y/\InR r T.length)->(∀ k∈ks,∀ l∈ks,getM e k=getM e l->k=l)->
 (∀ u∈ks,∀ r y,getM e u=some r->getM c u=some y->at0 (ks.foldl (pay1 c e w) (T,V)).1 r=at0 T r+(w - y)/\at0 (ks.foldl (pay1 c e w) (T,V)).2 u=at0 V u - (w - y))/\
 (∀ x,(∀ u∈ks,getM e u≠some x)->at0 (ks.foldl (pay1 c e w) (T,V)).1 x=at0 T x)/\∀ v,v∉ks->at0 (ks.foldl (pay1 c e w) (T,V)).2 v=at0 V v
 | [],T,V,_,_,_=>⟨fun u i=>(by cases i),fun _ _=>rfl,fun _ _=>rfl⟩
 | k :: ks, T, V, nd, hk, inj => by
  rw [YaB] at nd;obtain⟨g,r,y,m,s,h⟩:=hk k YaV;have F:pay1 c e w (T,V) k=(T.set r.toNat (at0 T r+(w - y)),V.set k.toNat (at0 V k - (w - y))):=by
   unfold pay1 at0;rw [m,s,if_pos h.1,if_pos g.1];rfl
  rw [Xo,F];obtain⟨K,C,B⟩:=zfy c e w ks (T.set r.toNat (at0 T r+(w - y))) (V.set k.toNat (at0 V k - (w - y))) nd.2 (fun l H=>by rw [YaN,YaN];exact hk l (YaT _ H)) (fun a J b I=>inj a (YaT _ J) b (YaT _ I))
  have j:∀ u∈ks,getM e u≠some r:=fun u i z=>by
   have:=inj u (YaT _ i) k YaV (z.trans m.symm);exact nd.1 (this ▸ i)
  refine⟨fun u i M L n p=>?_,fun x A=>?_,fun v o=>?_⟩
  . rcases Wbe.mp i with z|z
    . subst z
      rw [m] at n;rw [s] at p;cases n;cases p;rw [C r j,B u nd.1,Jk h,Jk g,if_pos rfl,if_pos rfl];exact⟨rfl,rfl⟩
    . obtain⟨E,G⟩:=K u z M L n p
      rw [E,G,Jk h,Jk g,if_neg (fun q=>j u z (by rw [<-q];exact n)),if_neg (fun q:u=k=>nd.1 (q ▸ z))]
      exact⟨rfl,rfl⟩
  . rw [C x fun u i=>A u (YaT _ i),Jk h,if_neg fun q=>A k YaV (by rw [q];exact m)]
  . rw [Wbe,not_or] at o
    rw [B v o.2,Jk g,if_neg o.1]
theorem paid{w:Int}{T V:List Int}(i:ks.Nodup)(b:InR s T.length)(h:∀ k∈ks,InR k V.length/\∃ r y,getM hd k=some r/\getM far k=some y/\InR r T.length)(c:∀ k∈ks,∀ l∈ks,getM hd k=getM hd l->k=l)(e:∀ k∈ks,getM hd k≠some s) :
 Paid hd far s ks w (at0 T) (at0 V) (at0 (ks.foldl (pay1 far hd w) (T.set s.toNat (T.getD s.toNat 0+w),V)).1) (at0 (ks.foldl (pay1 far hd w) (T.set s.toNat (T.getD s.toNat 0+w),V)).2):=by
 obtain⟨z,g,o⟩:=zfy far hd w ks (T.set s.toNat (T.getD _ 0+w)) V i (fun l v=>by rw [YaN];exact h l v) c
 refine⟨?_,fun u a r y A p=>?_,fun x m a=>?_,o⟩
 . rw [g s e,Jk b,if_pos rfl]
   unfold at0;rw [if_pos b.1]
 . obtain⟨j,n⟩:=z u a r y A p
   rw [j,n,Jk b,if_neg fun q=>e u a (by grind)]
   simp
 . rw [g x a,Jk b,if_neg m]
theorem zh.via(q:zh H H1)(u:∀ a∈as,H a=none)(j:∀ a∈as,∃ o,H1 a=some o/\∀ f,o≠.ext f)(l:zh (bar H1 as) H2):zh H H2:=by
 refine zh.trans (fun b o e=>?_) l
 have h:b∉as:=fun z=>by simp_all
 rw [z6 h]
 rcases q b o e with z|⟨r,p,g,m,c⟩
 . exact .inl z
 . refine .inr ⟨r,p,g,by rw [z6 h];exact m,?_⟩
   rw [z6 fun z=>by obtain⟨s,i,n⟩:=j g z;rw [c] at i;exact n _ (Wa3 i).symm]
   exact c
theorem zmd(h:k∉ks):putK (encK ks) (Xn k) (.bl true)=encK (ks++[k]):=by
 have:((encK ks).any fun b=>decide (b.1=Xn k))=false:=by
  rw [WD];intro b a;obtain⟨l,c,rfl⟩:=Ya7.mp a
  grind
 unfold putK;rw [this];unfold encK
 simp
theorem ziD:(encK ks).length=ks.length:=by unfold encK;rw [YaR]
section
variable{s:Nat}{t:Tb}{start:Int}
theorem Sea.len(S:Sea Ch c tp vp h start far came done)(M:Mend Ch c p0 A B s tp vp t h):done.length<=A:=by
 have l:∀ u∈done,getM t ((getM h u).getD 0)=some u:=fun u i=>by
  obtain⟨r,e⟩:=Wah.mp (S.held u i).1;rw [e];exact(M.mat _ u).mpr e
 have j:(done.map fun u=>(getM h u).getD 0).Nodup:=by
  rw [Wae,WaO];refine(Wae.mp S.nd).imp_of_mem fun {a b} o n g e=>g ?_
  grind
 have:=JF j fun x m=>by
  obtain⟨u,i,rfl⟩:=Ya7.mp m;exact zaZ (by rw [l u i];rfl)
 rw [YaR,YaR] at this;exact Ya5 this M.ot.len
theorem Mend.still(M:Mend Ch c p0 A B s tp vp t h)(S:Sea Ch c tp vp h start far came done)(m:getM t start=none)(p:Paid h far start done whole tp vp tp' vp'):∀ x v,getM t x=some v->Ch x v/\tp' x+vp' v=c x v:=fun x v e=>by
 obtain⟨b,g⟩:=M.ed x v e;refine⟨b,?_⟩;have j:=(M.mat x v).mp e
 by_cases a:v∈done
 . obtain⟨y,i⟩:=Wah.mp (S.held v a).2
   obtain⟨n,o⟩:=p.re v a x y j i
   grind
 . rw [p.vo v a,p.to x (fun z=>by grind) fun u l z=>?_]
   . exact g
   . have:=(M.mat x u).mpr z
     simp_all
end
structure Sep(M:MkD):Prop where
 ct:M.aC≠M.aT
 cv:M.aC≠M.aV
 tv:M.aT≠M.aV
 kh:M.aK≠M.aH
structure Fits(M:MkD)(A B:Nat):Prop where
 cl:M.cs.length=A
 tl:M.tp.length=A
 vl:M.vp.length=B
 nd:∀ its∈M.cs,(its.map (·.1)).Nodup
 inn:∀ its∈M.cs,∀ p∈its,InR p.1 B
 hA:A<=60
 hB:B<=2000
def zcS(C tb:Addr):Sp:=fun vs H Q E=>∃ (m:Addr) (s A B:Nat) (M:MkD) (p0 f:Int->Int),vs=[.ref m,.int (s:Int)]/\TabU tb H/\Mkt C H m M/\Sep M/\Fits M A B/\s<A/\Mend (ChM M) (cM M) p0 A B s (at0 M.tp) (at0 M.vp) M.tk M.hd/\(∀ x,InR x A->ChM M x (f x))/\(∀ x y,InR x A->InR y A->f x=f y->x=y)/\
 ∀ tp' vp' tk' hd' H',tp'.length=A->vp'.length=B->Mend (ChM M) (cM M) p0 A B (s+1) (at0 tp') (at0 vp') tk' hd'->zh (bar H [M.aT,M.aV,M.aK,M.aH]) H'->Mkt C H' m { M with tp:=tp',vp:=vp',tk:=tk',hd:=hd' }->Q .non H'
theorem zmK(cl:Cls K C)(n5:zO K C "taken")(n4:zO K C "holders")(GL:Df P w K mg base 1 "look_from" ["market", "turn", "gone", "far", "came"] (zcO C))(GN:Df P w K mg base 4 "nearest" ["far", "done"] (zdg tb))(GP:Df P w K mg base 1 "change_prices" ["market", "start", "whole", "far", "done"] (zcp C))(GM:Df P w K mg base 1 "move_along" ["choice", "came", "taken", "holders"] spMove)
   (F:Fun K "serve" "serve" (top 53) f fd):FnOk P w K mg base (CXR P w) 5 f fd ["market", "start"] (zcS C tb):=by
 have S:FnScope ["market", "start", "far", "came", "done", "visit"] ["market", "start"] (zg (top 53)):=⟨rfl,rfl,rfl,#[3],rfl,#[3],#[3]⟩
 refine F.okR S (fun vs H Q E h=>?_) (fun b9 A b0 s H vs Q E N h=>?_)
 . obtain⟨_,_,_,_,_,_,_,rfl,_⟩:=h;rfl
 refine Hd fun V ζ=>?_;obtain⟨m,n,A',B',M,p0,g,rfl,tu,I,a9,B,hs,j,hg,ac,q⟩:=h;apply ζ
 have hu:=zT N;refine⟨_,zL (jd (i:=2) S.nd rfl (.inl rfl) J7) (zL (jd (i:=3) S.nd rfl (.inl rfl) J7) (zL (jd (i:=4) S.nd rfl (.inl rfl) J7)
  (zL (j0 (jy GL (N.mono #[1]) rfl jH (zn (pv 0) (zn (pv 1) (zn jO (zn (pv 2) (zn (pv 3) zJ))))))) (zL (jd (i:=5) S.nd rfl (.inl rfl) (jy GN (N.mono #[1]) rfl jH (zn (pv 2) (zn (pv 4) zJ))))
  (zL (zdl WaP (zae (zmz hu (pv 5) (jB (pv 0) rfl)))
   (zL (Jj hu (pv 4) (pv 5) zgJ rfl) (zL (j0 (jy GL (N.mono #[1]) rfl jH (zn (pv 0) (zn (jL hu (jB (pv 0) rfl) (pv 5) (fun _ _=>rfl)) (zn (jL hu (pv 2) (pv 5) (fun _ _=>rfl)) (zn (pv 2) (zn (pv 3) zJ)))))))
    (jf (jd (i:=5) S.nd rfl (.inl rfl) (jy GN (N.mono #[1]) rfl jH (zn (pv 2) (zn (pv 4) zJ))))))))
  (zL (j0 (jy GP (N.mono #[1]) rfl jH (zn (pv 0) (zn (pv 1) (zn (jL hu (pv 2) (pv 5) (fun _ _=>rfl)) (zn (pv 2) (zn (pv 4) zJ)))))))
   (jf (j0 (jy GM (N.mono #[1]) rfl jH (zn (pv 5) (zn (pv 3) (zn (jB (pv 0) rfl) (zn (jB (pv 0) rfl) zJ))))))))))))),?_⟩
 have T:InR (n:Int) A':=⟨#[94],#[94]⟩
 have h0:getM M.tk (n:Int)=none:=by
  cases e:getM M.tk (n:Int) with
  | none=>rfl
  | some v=>have:=(j.dom n).mp (by rw [e];rfl);lia
 have a4:∀ r,InR r A'->M.cs.getD r.toNat []∈M.cs:=fun r N=>by
  obtain⟨r0,r1⟩:=N;have:=B.cl;rw [YaP,YaQ (show r.toNat<M.cs.length by lia)]
  exact Ya4 _
 have a1:∀ r,InR r A'->(M.cs.getD r.toNat []).length<=B':=fun r N=>by
  have:=zao (B.nd _ (a4 r N)) fun x hx=>by
   obtain⟨p,hp,rfl⟩:=Ya7.mp hx;exact B.inn _ (a4 r N) p hp
  rwa [YaR] at this
 have an:∀ x v,ChM M x v->InR v B':=fun x v hc=>by
  obtain⟨y,e⟩:=Wah.mp hc.2;exact B.inn _ (a4 x (B.cl ▸ hc.1)) _ (JQ e)
 have au:∀ r O far came,InR r A'->Looked (ChM M) (cM M) (at0 M.tp) (at0 M.vp) r O far came ((M.cs.getD r.toNat []).foldl (zz (zG M r O) r) (far,came)).1 ((M.cs.getD r.toNat []).foldl (zz (zG M r O) r) (far,came)).2:=fun r O far came N=>looked (B.cl ▸ N) (B.nd _ (a4 r N)) fun v hc=>(an r v hc).1
 have a0:∀ {x:Nat},x<=200000->x<sizeLine:=fun {x} hx=>WaE hx #[1]
 refine fun G aj R a3 J U=>?_
 have a6:R≠G:=(fun z=>by rw [z,zf] at a3;cases a3)
 have a2:J≠R:=(fun z=>by rw [z,zf] at U;cases U)
 have Y:J≠G:=fun z=>by rw [z,zc a6.symm,zf] at U;cases U
 have s3:=((zx aj (.dK [])).trans ((zx a3 (.dK [])).trans (zx U (.dK [])))).x;have f3:upd (upd (upd H G (.dK [])) R (.dK [])) J (.dK []) G=some (.dK (encM [])):=by rw [zc Y.symm,zc a6.symm,zf];rfl
 have c3:upd (upd (upd H G (.dK [])) R (.dK [])) J (.dK []) R=some (.dK (encM [])):=by rw [zc a2.symm,zf];rfl
 have d3:upd (upd (upd H G (.dK [])) R (.dK [])) J (.dK []) J=some (.dK (encK [])):=zf;rw [zc a6] at a3;rw [zc a2,zc Y] at U;generalize upd (upd (upd H G (.dK [])) R (.dK [])) J (.dK [])=H3 at *;have mk:∀ {H':Hp},zh H H'->Mkt C H' m M:=fun sx=>I.keep fun b o e nx=>sx.at e nx
 have ad:∀ r,InR r A'->0<=r/\r<(M.cs.length:Int)/\r<(M.tp.length:Int)/\∀ p∈M.cs.getD r.toNat [],InR p.1 M.vp.length:=fun r N=>⟨N.1,by rw [B.cl];exact N.2,by rw [B.tl];exact N.2,fun p hp=>by rw [B.vl];exact B.inn _ (a4 r N) p hp⟩
 obtain⟨p1,p2,p3,p4⟩:=ad n T;have hB:=B.hB;have hA:=B.hA;have aa:∀ {H1 H2:Hp} {x y:HO},zh H H1->H1 G=some x->(∀ f,x≠.ext f)->H1 R=some y->(∀ f,y≠.ext f)->zh (bar H1 [G,R]) H2->zh H H2:=fun sx e1 n1 e2 n2 s2=>zh.via sx (fun a ha=>by
  rcases Wbe.mp ha with z|z
  . rw [z];exact aj
  . rw [Ya6.mp z];exact a3) (fun a ha=>by
  rcases Wbe.mp ha with z|z
  . rw [z];exact⟨_,e1,n1⟩
  . rw [Ya6.mp z];exact⟨_,e2,n2⟩) s2
 dsimp only;refine Sq fun V ζ=>?_;refine⟨.ref m,rfl,.int n,rfl,.ref G,rfl,.ref R,rfl,m,n,0,G,R,M,[],[],rfl,mk s3,p1,p2,p3,p4,f3,c3,a6.symm,?_,?_,fun H4 s4 f4 c4=>ζ _ _ ?_⟩
 . have:=a1 n T;exact a0 (by simp only [Xz];lia)
 . have:=a1 n T;exact a0 (by simp only [Xz];lia)
 have d4:H4 J=some (.dK (encK [])):=s4.at ((z6 (by simp [Y,a2])).trans d3)
 have s4:=aa s3 f3 (by intro _ z;cases z) c3 (by intro _ z;cases z) s4
 have S0:=Sea.begin_ (h:=M.hd) (au n 0 [] [] T);have l0:=zbE (zG M n 0) n (M.cs.getD (n:Int).toNat []) ([],[]);have r0:=a1 n T;generalize (M.cs.getD (n:Int).toNat []).foldl (zz (zG M n 0) n) ([],[])=fc at *;obtain⟨far,came⟩:=fc;simp only [Xz,Nat.zero_add] at l0;obtain⟨v0,x0,ao,am⟩:=S0.open_ j T h0 hg ac;refine Sq fun V ζ=>?_;refine⟨.ref G,rfl,.ref J,rfl,G,J,far,[],rfl,tu.same s4,f4,d4,Y.symm,a0 (by have:=l0.1;lia),⟨v0,x0,am,ao⟩,fun v O H5 hv Z W s5=>ζ _ _ ?_⟩
 refine⟨fun k σ' H'=>∃ (far came:Tb) (done:List Int) (v O:Int),σ'=[some (.ref m),some (.int n),some (.ref G),some (.ref R),some (.ref J),some (.int v)]/\k=A'+1 - done.length/\Sea (ChM M) (cM M) (at0 M.tp) (at0 M.vp) M.hd n far came done/\v∉done/\getM far v=some O/\(∀ u z,getM far u=some z->u∉done->O<=z)/\far.length<=(done.length+1)*B'/\came.length<=(done.length+1)*B'/\zh H H'/\H' G=some (.dK (encM far))/\H' R=some (.dK (encM came))/\H' J=some (.dK (encK done)),
  ⟨_,far,came,[],v,O,rfl,rfl,S0,Z,hv,W,by have:=l0.1;simp only [Xz];lia,by have:=l0.2;simp only [Xz];lia,s4.trans s5,s5.at f4,s5.at c4,s5.at d4⟩,?_⟩
 clear S0 l0 r0 ao am W hv Z s5 f4 c4 d4 s4 f3 c3 d3 s3
 intro k σ' H5 ξ;refine Hd fun V ζ=>?_;obtain⟨far,came,done,v,O,rfl,rfl,Se,Z,hv,W,lf,lc,s5,f5,c5,d5⟩:=ξ;apply ζ
 have M5:=mk s5;have b8:=Se.len j;have dB:(done.length+1)*B'<=61*B':=Nat.mul_le_mul_right _ #[94]
 have dg:DGet H5 G (.int v) (some (.int O)):=by have:=DGet.k (k:=Xn v) f5;rwa [jp,hv] at this
 refine⟨.int v,rfl,.ref m,rfl,m,C,M.dx,mfs M,.ref M.aH,rfl,M5.ins,cl,n4,rfl,M.aH,_,rfl,DGet.k (k:=Xn v) M5.dh,_,rfl,?_⟩
 rw [jp];cases N:getM M.hd v with
 | some r=>
  show if true=true then _ else _
  rw [if_pos rfl];have al:InR r A':=(j.oh.get N).2;refine⟨_,fun σ' H' z=>z,?_⟩
  refine Sq fun V ζ=>?_;refine⟨.ref J,rfl,.int v,rfl,J,_,rfl,DPut.k (k:=Xn v) d5 (by rw [ziD];exact a0 #[94]),ζ _ _ ?_⟩
  rw [zmd Z];have s6:=s5.chg (o:=.dK (encK (done++[v]))) U d5 (by intro _ z;cases z)
  have f6:upd H5 J (.dK (encK (done++[v]))) G=some (.dK (encM far)):=(zc Y.symm).trans f5;have c6:upd H5 J (.dK (encK (done++[v]))) R=some (.dK (encM came)):=(zc a2.symm).trans c5;have d6:upd H5 J (.dK (encK (done++[v]))) J=some (.dK (encK (done++[v]))):=zf;generalize upd H5 J (.dK (encK (done++[v])))=H6 at *;have M6:=mk s6;have b6:DGet H6 G (.int v) (some (.int O)):=by have:=DGet.k (k:=Xn v) f6;rwa [jp,hv] at this
  have b5:DGet H6 M.aH (.int v) (some (.int r)):=by have:=DGet.k (k:=Xn v) M6.dh;rwa [jp,N] at this
  obtain⟨p1,p2,p3,p4⟩:=ad r al;have rl:=a1 r al;refine Sq fun V ζ=>?_;refine⟨.ref m,rfl,.ref m,rfl,m,C,M.dx,mfs M,.ref M.aH,rfl,M6.ins,cl,n4,rfl,.int v,rfl,M.aH,.int r,rfl,b5,.ref G,rfl,.int v,rfl,G,.int O,rfl,b6,.ref G,rfl,.ref R,rfl,m,r,O,G,R,M,far,came,rfl,M6,p1,p2,p3,p4,f6,c6,a6.symm,a0 #[94],a0 #[94],fun H7 s7 f7 c7=>ζ _ _ ?_⟩
  have d7:H7 J=some (.dK (encK (done++[v]))):=s7.at ((z6 (by simp [Y,a2])).trans d6)
  have s7:=aa s6 f6 (by intro _ z;cases z) c6 (by intro _ z;cases z) s7
  have S1:=Se.next j Z hv (fun u hu y e=>W u y e hu) N (au r O far came al)
  have l1:=zbE (zG M r O) r (M.cs.getD r.toNat []) (far,came);generalize (M.cs.getD r.toNat []).foldl (zz (zG M r O) r) (far,came)=fc at *;obtain⟨a7,a5⟩:=fc;obtain⟨l1,l2⟩:=l1;have l1:a7.length<=far.length+(M.cs.getD r.toNat []).length:=l1;have l2:a5.length<=came.length+(M.cs.getD r.toNat []).length:=l2;have b7:=S1.len j;rw [YaS,Xm] at b7;have ms:(done.length+1+1)*B'=(done.length+1)*B'+B':=Nat.succ_mul _ _
  obtain⟨v1,x1,b1,b2⟩:=S1.open_ j T h0 hg ac;refine⟨.ref G,rfl,.ref J,rfl,G,J,a7,done++[v],rfl,tu.same s7,f7,d7,Y.symm,a0 #[94],⟨v1,x1,b2,b1⟩,fun v2 az H8 b4 ap ak s8=>?_⟩
  refine⟨A'+1 - (done++[v]).length,by rw [YaS,Xm];lia,a7,a5,done++[v],v2,az,rfl,rfl,S1,ap,b4,ak,?_,?_,s7.trans s8,s8.at f7,s8.at c7,s8.at d7⟩
  . rw [YaS,Xm];lia
  . rw [YaS,Xm];lia
 | none=>
  show if false=true then _ else _
  rw [if_neg #[1]]
  have hk:∀ k∈done,InR k M.vp.length/\∃ r y,getM M.hd k=some r/\getM far k=some y/\InR r M.tp.length:=fun k hk=>by
   obtain⟨r,e1⟩:=Wah.mp (Se.held k hk).1;obtain⟨y,e2⟩:=Wah.mp (Se.held k hk).2;rw [B.vl,B.tl];exact⟨(j.oh.get e1).1,r,y,e1,e2,(j.oh.get e1).2⟩
  have ae:InR (n:Int) M.tp.length:=by rw [B.tl];exact T
  have pd:=paid (w:=O) Se.nd ae hk (fun k aw l hl e=>by
   obtain⟨_,r,y,e1,_⟩:=hk k aw;have h1:=(j.mat r k).mpr e1;have h2:=(j.mat r l).mpr (e ▸ e1);rw [h1] at h2;exact Wa3 h2) (fun k _ e=>by
   have:=(j.mat _ k).mpr e;rw [h0] at this;cases this)
  have pl:=zcB far M.hd O done (M.tp.set (n:Int).toNat (M.tp.getD (n:Int).toNat 0+O),M.vp);have X:∀ {a:Addr} {o:HO},H a=some o->a≠G/\a≠R/\a≠J:=fun e=>⟨fun z=>(by rw [z,aj] at e;cases e),fun z=>(by rw [z,a3] at e;cases e),fun z=>(by rw [z,U] at e;cases e)⟩
  dsimp only;refine Sq fun V ζ=>?_;refine⟨.ref m,rfl,.int n,rfl,.ref G,rfl,.int v,rfl,G,.int O,rfl,dg,.ref G,rfl,.ref J,rfl,m,n,O,G,J,M,far,done,rfl,M5,ae,f5,d5,hk,a9.tv,Y,(X I.dh).2.2.symm,fun H6 s6 t6 v6=>ζ _ _ ?_⟩
  generalize done.foldl (pay1 far M.hd O) (M.tp.set (n:Int).toNat (M.tp.getD (n:Int).toNat 0+O),M.vp)=fc at *;obtain⟨T',V'⟩:=fc;obtain⟨ah,ag⟩:=pl;have ah:T'.length=A':=by rw [show T'.length=_ from ah,YaN,B.tl]
  have ag:V'.length=B':=(show V'.length=_ from ag).trans B.vl
  obtain⟨wp,r0,ay⟩:=Se.way j T h0 an Z hv pd;obtain⟨av,af,wy⟩:=wp.way;have a8:∀ {b:Addr} {o:HO},H5 b=some o->(∀ f,o≠.ext f)->b≠M.aT->b≠M.aV->b≠J->H6 b=some o:=fun e nx e1 e2 e3=>s6.at ((z6 (by simp [e1,e2,e3])).trans e) nx
  have nT:∀ {b:Addr} {o:HO},H b=some o->(∀ l,o≠.lst l)->b≠M.aT/\b≠M.aV:=fun e nl=>⟨fun z=>by rw [z,I.lt] at e;exact nl _ (Wa3 e).symm,fun z=>by rw [z,I.lv] at e;exact nl _ (Wa3 e).symm⟩
  have nD:∀ {b:Addr} {o:HO},H b=some o->(∀ l,o≠.dK l)->b≠M.aK/\b≠M.aH:=fun e nl=>⟨fun z=>by rw [z,I.dk] at e;exact nl _ (Wa3 e).symm,fun z=>by rw [z,I.dh] at e;exact nl _ (Wa3 e).symm⟩
  have ab:H6 m=some (.ins C M.dx (mfs M)):=a8 M5.ins (by intro _ z;cases z) (nT I.ins (by intro _ z;cases z)).1 (nT I.ins (by intro _ z;cases z)).2 (X I.ins).2.2
  have k6:H6 M.aK=some (.dK (encM M.tk)):=a8 M5.dk (by intro _ z;cases z) (nT I.dk (by intro _ z;cases z)).1 (nT I.dk (by intro _ z;cases z)).2 (X I.dk).2.2
  have h6:H6 M.aH=some (.dK (encM M.hd)):=a8 M5.dh (by intro _ z;cases z) (nT I.dh (by intro _ z;cases z)).1 (nT I.dh (by intro _ z;cases z)).2 (X I.dh).2.2
  have c6:H6 R=some (.dK (encM came)):=a8 c5 (by intro _ z;cases z) (X I.lt).2.1.symm (X I.lv).2.1.symm a2.symm
  have aq:=nT I.dk (by intro _ z;cases z)
  have ar:=nT I.dh (by intro _ z;cases z)
  refine⟨.int v,rfl,.ref R,rfl,.ref m,rfl,m,C,M.dx,mfs M,.ref M.aK,rfl,ab,cl,n5,rfl,.ref m,rfl,m,C,M.dx,mfs M,.ref M.aH,rfl,ab,cl,n4,rfl,v,R,M.aK,M.aH,came,av,M.tk,M.hd,_,_,n,A',B',_,rfl,fun c s e=>((af c s).mp e).2,wy,
   ⟨j.still Se h0 pd,⟨fun s x _=>j.mat s x,fun s e=>by have:=(j.mat s v).mp e;rw [N] at this;cases this⟩,j.ot,j.oh,⟨r0,(af v r0).mpr ⟨.inr rfl,ay⟩,rfl⟩,fun _ _=>rfl,fun _=>Iff.rfl,fun _ z=>z⟩,#[94],hB,c6,k6,h6,(X I.dk).2.1.symm,(X I.dh).2.1.symm,a9.kh,fun t' h' H7 mv s7 k7 h7=>?_⟩
  have bn:∀ {a:Addr} {L:List Addr},H a=none->bar H L a=none:=fun {a L} e=>by unfold bar;split<;>first|rfl|exact e
  have ax:zh (bar H [M.aT,M.aV,M.aK,M.aH]) H6:=zh.via ((Zd _ _).x.trans s5) (fun a ha=>by
   rcases Wbe.mp ha with z|z
   . exact jE (by rw [z];simp)
   . rcases Wbe.mp z with z|z
     . exact jE (by rw [z];simp)
     . rw [Ya6.mp z];exact bn U) (fun a ha=>by
   rcases Wbe.mp ha with z|z
   . rw [z];exact⟨_,M5.lt,(by intro _ z;cases z)⟩
   . rcases Wbe.mp z with z|z
     . rw [z];exact⟨_,M5.lv,(by intro _ z;cases z)⟩
     . rw [Ya6.mp z];exact⟨_,d5,(by intro _ z;cases z)⟩) s6
  have sF:zh (bar H [M.aT,M.aV,M.aK,M.aH]) H7:=zh.via ax (fun a ha=>jE (by
   rcases Wbe.mp ha with z|z
   . rw [z];simp
   . rw [Ya6.mp z];simp)) (fun a ha=>by
   rcases Wbe.mp ha with z|z
   . rw [z];exact⟨_,k6,(by intro _ z;cases z)⟩
   . rw [Ya6.mp z];exact⟨_,h6,(by intro _ z;cases z)⟩) s7
  have as:∀ {b:Addr} {o:HO},H b=some o->(∀ f,o≠.ext f)->b≠M.aT->b≠M.aV->b≠M.aK->b≠M.aH->H7 b=some o:=fun e nx e1 e2 e3 e4=>sF.at ((z6 (by simp [e1,e2,e3,e4])).trans e) nx
  have ai:∀ {b:Addr} {o:HO},H b=some o->(∀ f,o≠.ext f)->(∀ l,o≠.lst l)->(∀ l,o≠.dK l)->H7 b=some o:=fun e nx nl nd=>as e nx (nT e nl).1 (nT e nl).2 (nD e nd).1 (nD e nd).2
  refine q T' V' t' h' H7 ah ag (j.next Se Z hv (fun u hu y e=>W u y e hu) pd mv) sF ⟨?_,?_,?_,I.len,fun i d e=>?_,?_,?_,k7,h7⟩
  . exact ai I.ins (by intro _ z;cases z) (by intro _ z;cases z) (by intro _ z;cases z)
  . exact ai I.own (by intro _ z;cases z) (by intro _ z;cases z) (by intro _ z;cases z)
  . have:=nD I.lc (by intro _ z;cases z)
    exact as I.lc (by intro _ z;cases z) a9.ct a9.cv this.1 this.2
  . obtain⟨o,ho⟩:=I.dc i d e
    exact⟨o,ai ho (by intro _ z;cases z) (by intro _ z;cases z) (by intro _ z;cases z)⟩
  . exact s7.at ((z6 (by simp [aq.1.symm,ar.1.symm])).trans t6)
  . exact s7.at ((z6 (by simp [aq.2.symm,ar.2.symm])).trans v6)
noncomputable def cst1(V:List Win)(clan p:Int):Int:=if(V.getD p.toNat (0,0,0,none)).1=clan then 0 else 1
noncomputable def zR(V:List Win)(clan:Int)(pl:List Int):Tb:=pl.map fun p=>(p,cst1 V clan p)
noncomputable def csOf(V:List Win)(row:List Int)(ch:List (List Int)):List Tb:=List.zipWith (zR V) row ch
theorem zca{G:Hp}:∀ {xs:List V} {l:List Int},RdVs K G xs (l.map .int)->xs=l.map .int:=fun h=>zgi h
theorem ziX(h:getM t k=none):putM t k v=t++[(k,v)]:=by
 unfold putM;rw [if_neg];intro z;obtain⟨p,a,e⟩:=WY.mp z;unfold getM at h;rw [Option.map_eq_none_iff,WA] at h;exact h p a e
theorem zit{l:List Int}(c:l.Nodup)(g:j<l.length):l[j]∉l.take j:=fun a=>by
 obtain⟨k,b,e⟩:=Yam a;rw [List.getElem_take] at e;rw [WaW] at b;have:=(WaU c).mp e
 lia
def zdJ(K:Ybf):Sp:=fun vs H Q E=>∃ (v c r:Addr) (G:Hp) (V:List Win) (ch:List (List Int)) (row:List Int),vs=[.ref v,.ref c,.ref r]/\Sub G H/\RdV K G (.ref v) (.list (V.map dW))/\RdV K G (.ref c) (.list (ch.map dI))/\RdV K G (.ref r) (dI row)/\row.length=ch.length/\ch.length<=60/\(∀ pl∈ch,pl.Nodup/\pl.length<=2000/\∀ x∈pl,InR x V.length)/\
 ∀ (aC:Addr) (dcs:List Addr) H',zh H H'->H aC=none->H' aC=some (.lst (dcs.map .ref))->dcs.length=ch.length->(∀ (i:Nat) d,dcs[i]?=some d->∃ o,H' d=some (.frz o (.dK (encM ((csOf V row ch).getD i [])))))->Q (.ref aC) H'
theorem znx(hz:mg "zip" = none)(F:Fun K "costs_of_turns" "costs_of_turns" (top 47) f fd):FnOk P w K mg base (CXR P w) 1 f fd ["visits", "choices", "row"] (zdJ K):=by
 have S:FnScope ["visits", "choices", "row", "found", "clan", "places", "costs", "place"] ["visits", "choices", "row"] (zg (top 47)):=⟨rfl,rfl,rfl,#[3],rfl,#[3],#[3]⟩
 refine F.okR S (fun vs H Q E h=>?_) (fun az A al s H vs Q E hr h=>?_)
 . obtain⟨_,_,_,_,_,_,_,rfl,_⟩:=h;rfl
 obtain⟨v,c,r,G,U,ch,row,rfl,sG,rv,rc,rr,hl,av,ai,q⟩:=h
 obtain⟨xv,qv,ao⟩:∃ xs,SqL K G v xs/\RdVs K G xs (U.map dW):=by cases rv with|lst a b=>exact⟨_,a,b⟩
 obtain⟨xc,qc,rcs⟩:∃ xs,SqL K G c xs/\RdVs K G xs (ch.map dI):=by cases rc with|lst a b=>exact⟨_,a,b⟩
 obtain⟨xr,qr,rrs⟩:∃ xs,SqL K G r xs/\RdVs K G xs (row.map .int):=by cases rr with|lst a b=>exact⟨_,a,b⟩
 have rrs:=zca rrs;subst rrs
 have hu:=zT hr;refine⟨_,zL (jd (i:=3) S.nd rfl (.inl rfl) (zbV zJ)) (zL (ZR WaP rfl (zcI rfl hz (zn (pv 2) (zn (pv 1) zJ))) (zch rfl (JS (jl (i:=4) S.nd rfl (.inl rfl)) (JS (jl (i:=5) S.nd rfl (.inl rfl)) zbQ)))
  (zL (jd (i:=6) S.nd rfl (.inl rfl) J7) (zL (ZR WaP rfl (zbT (pv 5)) (jl (i:=7) S.nd rfl (.inl rfl))
   (jf (Jj hu (pv 6) (pv 7) (zgW (zbo zfZ (jI zb1 (jI Jg (pv 0) (pv 7) (fun _ _=>rfl)) jO (fun _ _=>rfl)) (pv 4) (nomark _)) jO jO) rfl)))
   (jf (zdm (j0 (zde (pv 3) (zn (pv 6) zJ)))))))) (jf (J4 (pv 3)))),?_⟩
 refine⟨Wby _,fun I hC=>?_⟩
 have s1:=(zx hC (.lst [])).x;refine⟨.ref r,rfl,.ref c,rfl,r,c,rfl,⟨_,(sG.trans s1).seq qr⟩,⟨_,(sG.trans s1).seq qc⟩,fun i n Y L=>i<=ch.length/\n=ch.length - i/\(∃ t4 t5 t6 W,Y=[some (.ref v),some (.ref c),some (.ref r),some (.ref I),t4,t5,t6,W])/\zh H L/\∃ B:List Addr,L I=some (.lst (B.map .ref))/\B.length=i/\∀ (j:Nat) d,B[j]?=some d->∃ o,L d=some (.frz o (.dK (encM ((csOf U row ch).getD j [])))),
  ⟨_,Wby _,rfl,⟨none,none,none,none,rfl⟩,s1,[],zf,rfl,fun j d e=>by simp at e⟩,?_⟩
 rintro i n Y L ⟨hi,rfl,⟨t4,t5,t6,W,rfl⟩,s',B,R,X,ag⟩
 have g':=sG.trans s'
 by_cases a0:i<ch.length
 . have a9:i<row.length:=#[94]
   obtain⟨y,hy,ry⟩:=rcs.get (i:=i) (d:=dI ch[i]) (by rw [Ya0,YaQ a0];rfl)
   obtain⟨pa,zs,rfl,qz,rz⟩:∃ pa zs,y=.ref pa/\SqL K G pa zs/\RdVs K G zs (ch[i].map .int):=by
    unfold dI at ry;cases ry with
    | lst a b=>exact⟨_,_,rfl,a,b⟩
   have rz:=zca rz;subst rz;have aa:(row.map V.int)[i]?=some (.int row[i]):=by rw [Ya0,YaQ a9];rfl
   obtain⟨nd,ay,am⟩:=ai _ (Ya4 a0);have ak:(csOf U row ch).getD i []=zR U row[i] ch[i]:=by
    unfold csOf;rw [YaP,List.getElem?_zipWith,YaQ a9,YaQ a0];rfl
   generalize ch[i]=l at *;generalize row[i]=clan at *;refine .inr ⟨⟨_,_,_,_,g'.seq qr,g'.seq qc,aa,hy⟩,fun Y L=>(∃ t4 t5 t6 W,Y=[some (.ref v),some (.ref c),some (.ref r),some (.ref I),t4,t5,t6,W])/\zh H L/\∃ B:List Addr,L I=some (.lst (B.map .ref))/\B.length=i+1/\∀ (j:Nat) d,B[j]?=some d->∃ o,L d=some (.frz o (.dK (encM ((csOf U row ch).getD j [])))),fun O H2 z=>⟨ch.length - (i+1),#[94],a0,rfl,z⟩,?_⟩
   rintro x H3 ⟨p,x',y',hp,rfl,rfl,hall⟩
   obtain⟨e1,e2⟩:=hall _ _ (g'.seq qr) (g'.seq qc);rw [aa] at e1;rw [hy] at e2;cases e1;cases e2;refine⟨p,[.int clan,.ref pa],rfl,SqT.of zf,rfl,_,_,rfl,_,_,rfl,rfl,?_⟩;refine fun u a1=>?_
   have as:u≠p:=(fun z=>by rw [z,zf] at a1;cases a1)
   have N:L u=none:=by rwa [zc as] at a1
   have s4:=s'.trans ((zx hp (.tup [.int clan,.ref pa])).trans (zx a1 (.dK []))).x;have u4:∀ b o,L b=some o->upd (upd L p (.tup [.int clan,.ref pa])) u (.dK []) b=some o:=fun b o e=>by
    rw [zc (fun z=>by rw [z,N] at e;cases e),zc (fun z=>by rw [z,hp] at e;cases e)];exact e
   have hd4:upd (upd L p (.tup [.int clan,.ref pa])) u (.dK [])=upd (upd L p (.tup [.int clan,.ref pa])) u (.dK (encM (zR U clan []))):=rfl;have n0:H u=none:=s'.free N;have a5:I≠u:=(fun z=>by rw [z,N] at R;cases R)
   generalize hH4:upd (upd L p (.tup [.int clan,.ref pa])) u (.dK [])=H4 at *;have h4:H4 u=some (.dK []):=by rw [<-hH4];exact zf
   have sU:∀ o,zh H (upd H4 u o):=fun o=>s4.chg n0 h4 (by intro _ z;cases z)
   dsimp only;refine Sq fun ν ζ=>?_;refine⟨.ref pa,rfl,pa,rfl,⟨_,(sG.trans s4).seq qz⟩,fun j m O H2=>j<=l.length/\m=l.length - j/\(∃ W,O=[some (.ref v),some (.ref c),some (.ref r),some (.ref I),some (.int clan),some (.ref pa),some (.ref u),W])/\H2=upd H4 u (.dK (encM (zR U clan (l.take j)))),
    ⟨_,Wby _,rfl,⟨_,rfl⟩,by rw [<-hH4,Z7];rfl⟩,?_⟩
   rintro j m O H2 ⟨hj,rfl,⟨ax,rfl⟩,rfl⟩
   have g2:=sG.trans (sU (.dK (encM (zR U clan (l.take j)))))
   by_cases J:j<l.length
   . have a6:(l.map V.int)[j]?=some (.int l[j]):=by rw [Ya0,YaQ J];rfl
     refine .inr ⟨⟨_,_,g2.seq qz,a6⟩,fun O H2=>(∃ W,O=[some (.ref v),some (.ref c),some (.ref r),some (.ref I),some (.int clan),some (.ref pa),some (.ref u),W])/\H2=upd H4 u (.dK (encM (zR U clan (l.take (j+1))))),fun O H2 z=>⟨l.length - (j+1),#[94],J,rfl,z⟩,?_⟩
     rintro x H5 ⟨e5,hall⟩
     have e5:=e5.symm;subst e5;have e:=hall _ (g2.seq qz);rw [a6] at e;cases e;have a8:=am _ (Ya4 J);have htk:l.take (j+1)=l.take j++[l[j]]:=by rw [WaQ,YaQ J];rfl
     have ad:getM (zR U clan (l.take j)) l[j]=none:=by
      cases e:getM (zR U clan (l.take j)) l[j] with
      | none=>rfl
      | some z=>
       have:=zaZ (t:=zR U clan (l.take j)) (k:=l[j]) (by rw [e];rfl)
       unfold zR at this;rw [YaD] at this;obtain⟨k,hk,ek⟩:=Ya7.mp this;have ek:k=l[j]:=ek;exact absurd (ek ▸ hk) (zit nd J)
     have ac:(zR U clan (l.take j)).length<sizeLine:=by
      unfold zR;rw [YaR,WaW];exact WaE (show _<=2000 by lia) #[1]
     have ah:putM (zR U clan (l.take j)) l[j] (cst1 U clan l[j])=zR U clan (l.take (j+1)):=by
      rw [ziX ad,htk];unfold zR;rw [Ya2];rfl
     have au:(U.map dW)[l[j].toNat]?=some (dW (U.getD l[j].toNat (0,0,0,none))):=by
      obtain⟨i0,i1⟩:=a8;rw [Ya0,YaP,YaQ (show l[j].toNat<U.length by lia)];rfl
     have a2:cst1 U clan l[j]=if(U.getD l[j].toNat (0,0,0,none)).1=clan then 0 else 1:=rfl
     generalize l[j]=k at *;generalize U.getD k.toNat (0,0,0,none)=wn at *;obtain⟨wv,ap,rw'⟩:=ao.get au;obtain⟨wa,ws,rfl,qw,aq⟩:∃ wa ws,wv=.ref wa/\SqT K G wa ws/\RdVs K G ws [.int wn.1,.int wn.2.1,.int wn.2.2.1,dO wn.2.2.2]:=by
      unfold dW at rw';cases rw' with
      | tup a b=>exact⟨_,_,rfl,a,b⟩
     obtain⟨ae,rfl⟩:∃ ae,ws=.int wn.1::ae:=by
      cases aq with
      | cons a b=>cases a;exact⟨_,rfl⟩
     have hat:atI xv k=some (.ref wa):=by
      have:=jb (xs:=xv) (j:=k.toNat) (v:=.ref wa) ap;rwa [show((k.toNat:Nat):Int)=k from WaC a8.1] at this
     refine⟨.ref v,rfl,.int k,rfl,v,xv,k,.ref wa,rfl,rfl,g2.seq qv,hat,wa,_,0,.int wn.1,rfl,rfl,g2.tup qw,jb (j:=0) rfl,.int clan,rfl,rfl,_,rfl,?_⟩
     have go:∀ x,x=cst1 U clan k->∃ y,([some (V.ref v),some (.ref c),some (.ref r),some (.ref I),some (.int clan),some (.ref pa),some (.ref u),some (.int k)]:L2.St)[6]?=some (some y)/\∃ z,([some (V.ref v),some (.ref c),some (.ref r),some (.ref I),some (.int clan),some (.ref pa),some (.ref u),some (.int k)]:L2.St)[7]?=some (some z)/\∃ a H6,y=.ref a/\DPut (upd H4 u (.dK (encM (zR U clan (l.take j))))) a z (.int x) H6/\(∃ W,([some (V.ref v),some (.ref c),some (.ref r),some (.ref I),some (.int clan),some (.ref pa),some (.ref u),some (.int k)]:L2.St)=[some (.ref v),some (.ref c),some (.ref r),some (.ref I),some (.int clan),some (.ref pa),some (.ref u),W])/\H6=upd H4 u (.dK (encM (zR U clan (l.take (j+1))))):=fun x hx=>
      ⟨.ref u,rfl,.int k,rfl,u,_,rfl,DPut.k (k:=Xn k) zf (by rw [Zu];exact ac),⟨_,rfl⟩,by rw [Ze,Z7,hx,ah]⟩
     show if decide (V.int wn.1=V.int clan)=true then _ else _
     by_cases hcl:wn.1=clan
     . rw [if_pos (by rw [hcl];exact decide_eq_true rfl)]
       exact go 0 (by rw [a2,if_pos hcl])
     . rw [if_neg (fun z=>hcl (by have z:=of_decide_eq_true z;cases z;rfl))]
       exact go 1 (by rw [a2,if_neg hcl])
   . have e:j=l.length:=#[94]
     subst e;rw [YaH] at g2 ⊢;refine .inl ⟨⟨_,g2.seq qz,by rw [YaR];exact YaY _⟩,ζ _ _ ?_⟩;refine⟨u,_,zf,fun o=>?_⟩
     rw [Z7];have a4:upd H4 u (.frz o (.dK (encM (zR U clan l)))) I=some (.lst (B.map .ref)):=(zc a5).trans (u4 _ _ R);refine⟨.ref I,rfl,.inl ⟨rfl,_,SqL.of a4⟩,.ref u,rfl,I,_,.ref u,rfl,rfl,a4,by rw [YaR,X];exact WaE (show _<=60 by lia) #[1],⟨_,_,_,_,rfl⟩,(sU _).chg hC a4 (by intro _ z;cases z),B++[u],by rw [zf,Ya2];rfl,by rw [YaS,X];rfl,fun j d e=>?_⟩
     by_cases J:j<B.length
     . rw [Yab J] at e
       obtain⟨o',ho⟩:=ag j d e;refine⟨o',?_⟩;rw [zc (fun z=>by rw [z,R] at ho;cases ho),zc (fun z=>by rw [z,N] at ho;cases ho)]
       exact u4 _ _ ho
     . have hj':j=i:=by
        have:=(Ya8.mp e).1;rw [YaS,Xm] at this
        lia
       subst hj';rw [<-X,Yae (YaY _),Wbs] at e;have e:u=d:=Wa3 e;subst e;rw [ak];exact⟨o,by rw [zc a5.symm];exact zf⟩
 . have e:i=ch.length:=#[94]
   subst e;have lx:xc.length=ch.length:=by rw [rcs.length,YaR]
   exact .inl ⟨⟨_,_,g'.seq qr,g'.seq qc,by rw [YaR,lx,hl,WP]⟩,.ref I,rfl,q I B L s' hC R X ag⟩
noncomputable def zY(n:Int)(wn:Win):Int:=if wn.2.2.2=none then 0 else n+1
def zcu(K:Ybf):Sp:=fun vs H Q E=>∃ (wa:Addr) (n:Int) (G:Hp) (wn:Win),vs=[.ref wa,.int n]/\Sub G H/\RdV K G (.ref wa) (dW wn)/\Q (.int (zY n wn)) H
theorem zlw(F:Fun K "first_price" "first_price" (top 48) f fd):FnOk P w K mg base (CXR P w) 1 f fd ["visit", "turns"] (zcu K):=by
 have S:FnScope ["visit", "turns"] ["visit", "turns"] (zg (top 48)):=⟨rfl,rfl,rfl,#[3],rfl,#[3],#[3]⟩
 refine F.okR S (fun l H Q E h=>?_) (fun j A g s H l Q E C h=>?_)
 . obtain⟨_,_,_,_,rfl,_⟩:=h;rfl
 obtain⟨p,n,G,v,rfl,y,r,q⟩:=h
 refine⟨_,jf (J4 (zgW (zae (ziL (jI zb1 (pv 0) jO (fun _ _=>rfl)))) jO (Jn zdo (pv 1) jO))),?_⟩
 obtain⟨c,a,b,o⟩:=v;cases r with
 | tup u e=>
  cases e with
  | cons B e=>
   cases e with
   | cons z e=>
    cases e with
    | cons I e=>
     cases e with
     | @cons m _ _ _ i e=>
      refine⟨_,rfl,p,_,3,m,rfl,rfl,y.tup u,jb rfl,_,rfl,?_⟩
      cases o with
      | none=>
       cases i;exact q
      | some k=>
       cases i;exact⟨.int n,rfl,n,1,rfl,rfl,q⟩
def zcd(K:Ybf):List V->Hp->VK->Prop:=fun xs H Q=>∃ p ys,xs=[V.ref p]/\(SqL K H p ys\/SqT K H p ys)/\Q (V.int ys.length) H
def zgR(K:Ybf)(C:Addr):Sp:=fun vs H Q E=>∃ (m dx v aC:Addr) (G:Hp) (U:List Win) (dcs:List Addr),vs=[.ref m,.ref v,.ref aC]/\H m=some (.ins C dx [])/\Sub G (bar H [m])/\RdV K G (.ref v) (.list (U.map dW))/\H aC=some (.lst (dcs.map .ref))/\dcs.length<=60/\U.length<=2000/\
 ∀ (aT aV aK aH:Addr) H',zh (bar H [m]) H'->H aT=none->H aV=none->H aK=none->H aH=none->aT≠aV->aK≠aH->
  H' m=some (.ins C dx [("costs", .ref aC),("turn_prices", .ref aT),("visit_prices", .ref aV),("taken", .ref aK),("holders", .ref aH)])->
  H' aT=some (.lst ((Xb dcs.length (0:Int)).map .int))->H' aV=some (.lst ((U.map (zY dcs.length)).map .int))->H' aK=some (.dK [])->H' aH=some (.dK [])->Q .non H'
theorem ziB(W:Cls K C)(n1:zO K C "costs")(n2:zO K C "turn_prices")(n3:zO K C "visit_prices")(n5:zO K C "taken")(n4:zO K C "holders")(a6:mg "len" = none)(GF:Df P w K mg base 1 "first_price" ["visit", "turns"] (zcu K))(F:Fun K "__init__" "Market.__init__" Ji f fd):FnOk P w K mg base (CXR P w) 2 f fd ["self", "visits", "costs"] (zgR K C):=by
 have S:FnScope ["self", "visits", "costs"] ["self", "visits", "costs"] (zg Ji):=⟨rfl,rfl,rfl,#[3],rfl,#[3],#[3]⟩
 refine F.okR S (fun vs H Q E h=>?_) (fun ai A ab s H vs Q E hr h=>?_)
 . obtain⟨_,_,_,_,_,_,_,rfl,_⟩:=h;rfl
 refine Hd fun ζ ξ=>?_;obtain⟨m,n,v,g,G,U,c,rfl,hm,sG,rv,hC,ah,aj,q⟩:=h;apply ξ
 obtain⟨xv,qv,a5⟩:∃ xs,SqL K G v xs/\RdVs K G xs (U.map dW):=by cases rv with|lst a b=>exact⟨_,a,b⟩
 refine⟨_,zL (za1 (pv 0) (pv 2) rfl) (zL (za1 (pv 0) (zaP ["turn"] [] [] rfl (z0 (osc:=zg Ji) #[3]) rfl (zbT (pv 2)) (fun s H fp W=>⟨jl (i:=0) (show((["turn"]:List Xk)++([]:List Xk)).Nodup by decide) rfl (.inl rfl),zaE,jO⟩)) rfl)
  (zL (za1 (pv 0) (zaP ["visit"] ["costs"] [2] rfl (z0 (osc:=zg Ji) #[3]) rfl (zbT (pv 1)) (fun s H fp W=>⟨jl (i:=0) (show((["visit"]:List Xk)++(["costs"]:List Xk)).Nodup by decide) rfl (.inl rfl),zaE,jy GF hr rfl jH (zn (pv 0) (zn (ZW (r:=zcd K) za9 rfl a6 zC (zn (pv 1) zJ)) zJ))⟩)) rfl)
   (zL (za1 (pv 0) J7 rfl) (jf (za1 (pv 0) J7 rfl))))),?_⟩
 have bm:bar H [m] m=none:=jE (by simp)
 have a4:g≠m:=(fun z=>by rw [z,hm] at hC;cases hC)
 have sL:=(Zd H [m]).x;have nx:∀ {o:HO},(∀ l,o≠.ext l)->∀ f,o≠.ext f:=fun h=>h
 refine Sq fun ν ζ=>?_;refine⟨.ref g,rfl,.ref m,rfl,m,C,n,[],rfl,hm,W,n1,by simp,ζ _ _ ?_⟩
 have s1:=sL.chg (o:=.ins C n (putF "costs" (.ref g) [])) bm hm (by intro _ z;cases z)
 have m1:upd H m (.ins C n (putF "costs" (.ref g) [])) m=some (.ins C n [("costs", .ref g)]):=zf;have c1:upd H m (.ins C n (putF "costs" (.ref g) [])) g=some (.lst (c.map .ref)):=(zc a4).trans hC;have f1:∀ b,upd H m (.ins C n (putF "costs" (.ref g) [])) b=none->H b=none:=fun b e=>by
  by_cases z:b=m
  . rw [z,zf] at e;cases e
  . rwa [zc z] at e
 generalize upd H m (.ins C n (putF "costs" (.ref g) []))=H1 at *;refine Sq fun ν ζ=>?_;refine⟨.ref g,rfl,g,rfl,⟨_,SqL.of c1⟩,fun j hT=>⟨fun i k ys I M=>i<=c.length/\k=c.length - i/\(∃ t0,I=[t0])/\ys=(Xb i (0:Int)).map .int/\M=upd H1 j (.lst ys),⟨_,Wby _,rfl,⟨none,rfl⟩,rfl,rfl⟩,?_⟩⟩
 rintro i k ys I M ⟨hi,rfl,⟨t0,rfl⟩,rfl,rfl⟩
 have ag:g≠j:=(fun z=>by rw [z,hT] at c1;cases c1)
 have L:m≠j:=(fun z=>by rw [z,hT] at m1;cases m1)
 have c2:∀ o,upd H1 j o g=some (.lst (c.map .ref)):=fun o=>(zc ag).trans c1
 by_cases u:i<c.length
 . refine .inr ⟨⟨_,.ref c[i],SqL.of (c2 _),by rw [Ya0,YaQ u];rfl⟩,?_⟩
   rintro x R ⟨Z,_⟩
   have Z:=Z.symm;subst Z;have e:(Xb i (0:Int)).map V.int++[.int 0]=(Xb (i+1) (0:Int)).map V.int:=by rw [List.replicate_succ',Ya2];rfl
   refine⟨zf,by rw [YaR,Ybb];exact WaE (show _<=60 by omega) #[1],c.length - (i+1),#[0],u,rfl,⟨_,rfl⟩,e,Z7⟩
 have e:i=c.length:=#[0]
 subst e;clear hi u;refine .inl ⟨⟨_,SqL.of (c2 _),by rw [YaR];exact YaY _⟩,?_⟩
 have ae:=f1 _ hT;have s2:=s1.trans (zx hT (.lst ((Xb c.length (0:Int)).map .int))).x;have m2:upd H1 j (.lst ((Xb c.length (0:Int)).map .int)) m=some (.ins C n [("costs", .ref g)]):=(zc L).trans m1;have t2:upd H1 j (.lst ((Xb c.length (0:Int)).map .int)) j=some (.lst ((Xb c.length (0:Int)).map .int)):=zf;have c2:=c2 (.lst ((Xb c.length (0:Int)).map .int))
 have f2:∀ b,upd H1 j (.lst ((Xb c.length (0:Int)).map .int)) b=none->H b=none:=fun b e=>by
  by_cases z:b=j
  . rw [z,zf] at e;cases e
  . rw [zc z] at e;exact f1 b e
 generalize upd H1 j (.lst ((Xb c.length (0:Int)).map .int))=M at *;refine⟨.ref m,rfl,m,C,n,_,rfl,m2,W,n2,by simp,ζ _ _ ?_⟩
 have s3:=s2.chg (o:=.ins C n [("costs", .ref g),("turn_prices", .ref j)]) bm m2 (by intro _ z;cases z)
 show tSeq _ _ _ _ (upd M m (.ins C n [("costs", .ref g),("turn_prices", .ref j)]))
 have m3:upd M m (.ins C n [("costs", .ref g),("turn_prices", .ref j)]) m=some (.ins C n [("costs", .ref g),("turn_prices", .ref j)]):=zf;have c3:upd M m (.ins C n [("costs", .ref g),("turn_prices", .ref j)]) g=some (.lst (c.map .ref)):=(zc a4).trans c2;have t3:upd M m (.ins C n [("costs", .ref g),("turn_prices", .ref j)]) j=some (.lst ((Xb c.length (0:Int)).map .int)):=(zc L.symm).trans t2
 have f3:∀ b,upd M m (.ins C n [("costs", .ref g),("turn_prices", .ref j)]) b=none->H b=none:=fun b e=>by
  by_cases z:b=m
  . rw [z,zf] at e;cases e
  . rw [zc z] at e;exact f2 b e
 generalize upd M m (.ins C n [("costs", .ref g),("turn_prices", .ref j)])=R at *;refine Sq fun ν ζ=>?_;refine⟨.ref v,rfl,v,rfl,⟨_,(sG.trans s3).seq qv⟩,fun p hV=>⟨fun i k ys I H4=>i<=U.length/\k=U.length - i/\(∃ t0,I=[t0,some (.ref g)])/\ys=((U.take i).map (zY c.length)).map .int/\H4=upd R p (.lst ys),⟨_,Wby _,rfl,⟨none,rfl⟩,rfl,rfl⟩,?_⟩⟩
 rintro i k ys I H4 ⟨hi,rfl,⟨t0,rfl⟩,rfl,rfl⟩
 have af:g≠p:=(fun z=>by rw [z,hV] at c3;cases c3)
 have N:m≠p:=(fun z=>by rw [z,hV] at m3;cases m3)
 have a2:j≠p:=(fun z=>by rw [z,hV] at t3;cases t3)
 have Y:∀ o,zh (bar H [m]) (upd R p o):=fun o=>s3.trans (zx hV o).x
 have lx:xv.length=U.length:=by rw [a5.length,YaR]
 by_cases u:i<U.length
 . obtain⟨y,hy,ry⟩:=a5.get (i:=i) (d:=dW U[i]) (by rw [Ya0,YaQ u];rfl)
   obtain⟨wa,rfl⟩:∃ wa,y=.ref wa:=by
    have r2:=ry;unfold dW at r2;cases r2 with
    | tup a b=>exact⟨_,rfl⟩
   refine .inr ⟨⟨_,_,(sG.trans (Y _)).seq qv,hy⟩,?_⟩
   rintro x H5 ⟨Z,a3⟩
   have Z:=Z.symm;subst Z;have e:=a3 _ ((sG.trans (Y _)).seq qv);rw [hy] at e;cases e;have aa:((U.take i).map (zY c.length)).map V.int++[.int (zY c.length U[i])]=((U.take (i+1)).map (zY c.length)).map V.int:=by rw [WaQ,YaQ u,Ya2,Ya2];rfl
   refine⟨.ref wa,rfl,.ref g,rfl,g,_,rfl,.inl (SqL.of ((zc af).trans c3)),wa,_,G,U[i],rfl,sG.trans (Y _),ry,?_⟩
   rw [show(c.map V.ref).length=c.length from YaR ..]
   refine⟨zf,?_,U.length - (i+1),#[0],u,rfl,⟨_,rfl⟩,aa,Z7⟩
   rw [YaR,YaR,WaW];exact WaE (show _<=2000 by omega) #[1]
 have e:i=U.length:=#[0]
 subst e;clear hi u;rw [YaH];refine .inl ⟨⟨_,(sG.trans (Y _)).seq qv,by rw [lx];exact YaY _⟩,?_⟩
 have ad:=f3 _ hV;have Y:=Y (.lst ((U.map (zY c.length)).map .int));have m4:upd R p (.lst ((U.map (zY c.length)).map .int)) m=some (.ins C n [("costs", .ref g),("turn_prices", .ref j)]):=(zc N).trans m3;have t4:upd R p (.lst ((U.map (zY c.length)).map .int)) j=some (.lst ((Xb c.length (0:Int)).map .int)):=(zc a2).trans t3;have v4:upd R p (.lst ((U.map (zY c.length)).map .int)) p=some (.lst ((U.map (zY c.length)).map .int)):=zf
 have f4:∀ b,upd R p (.lst ((U.map (zY c.length)).map .int)) b=none->H b=none:=fun b e=>by
  by_cases z:b=p
  . rw [z,zf] at e;cases e
  . rw [zc z] at e;exact f3 b e
 generalize upd R p (.lst ((U.map (zY c.length)).map .int))=H4 at *;refine⟨.ref m,rfl,m,C,n,_,rfl,m4,W,n3,by simp,ζ _ _ fun O hK=>⟨.ref m,rfl,m,C,n,[("costs", .ref g),("turn_prices", .ref j),("visit_prices", .ref p)],rfl,?_,W,n5,by simp,fun X hH=>⟨.ref m,rfl,m,C,n,[("costs", .ref g),("turn_prices", .ref j),("visit_prices", .ref p),("taken", .ref O)],rfl,?_,W,n4,by simp,?_⟩⟩⟩
 all_goals
  have B:O≠m:=(fun z=>by rw [z,zf] at hK;cases hK)
  have T:H4 O=none:=by rwa [zc B] at hK
 . exact(zc B.symm).trans zf
 all_goals
  have J:X≠m:=(fun z=>by rw [z,zf] at hH;cases hH)
  have a0:X≠O:=fun z=>by rw [z,zc B,zf] at hH;cases hH
  have a1:H4 X=none:=by rwa [zc J,zc a0,zc J] at hH
 . exact(zc J.symm).trans zf
 have a8:j≠O:=(fun z=>by rw [z,T] at t4;cases t4)
 have a9:j≠X:=(fun z=>by rw [z,a1] at t4;cases t4)
 have ac:p≠O:=(fun z=>by rw [z,T] at v4;cases v4)
 have a7:p≠X:=(fun z=>by rw [z,a1] at v4;cases v4)
 have s5:=Y.chg (o:=.ins C n (putF "visit_prices" (.ref p) [("costs", .ref g),("turn_prices", .ref j)])) bm m4 (by intro _ z;cases z)
 have s6:=s5.trans (zx hK (.dK [])).x;have s7:=s6.chg (o:=.ins C n (putF "taken" (.ref O) [("costs", .ref g),("turn_prices", .ref j),("visit_prices", .ref p)])) bm ((zc B.symm).trans zf) (by intro _ z;cases z)
 have s8:=s7.trans (zx hH (.dK [])).x;have s9:=s8.chg (o:=.ins C n (putF "holders" (.ref X) [("costs", .ref g),("turn_prices", .ref j),("visit_prices", .ref p),("taken", .ref O)])) bm ((zc J.symm).trans zf) (by intro _ z;cases z)
 refine q j p O X _ s9 ae ad (f4 _ T) (f4 _ a1) a2 a0.symm zf ?_ ?_ ?_ ?_
 . rw [zc L.symm,zc a9,zc L.symm,zc a8,zc L.symm];exact t4
 . rw [zc N.symm,zc a7,zc N.symm,zc ac,zc N.symm];exact v4
 . rw [zc B,zc a0.symm,zc B,zf]
 . rw [zc J,zf]
noncomputable def Mk0(cs:List Tb):MkD:=⟨0,0,0,0,0,0,[],cs,[],[],[],[]⟩
noncomputable def zP(U:List Win)(tk:Tb)(A:Nat):List Int:=(Xe A).map fun i:Nat=>(U.getD ((getM tk (i:Int)).getD 0).toNat (0,0,0,none)).1
noncomputable def zN(new row:List Int):List Int:=((new.zip row).filter fun p=>!decide (p.1=p.2)).map (·.1)
def JP:Sp3:=fun ds Q E=>∃ (U:List Win) (ch:List (List Int)) (row:List Int) (f:Int->Int),ds=[.list (U.map dW),.list (ch.map dI),dI row]/\row.length=ch.length/\ch.length<=60/\U.length<=2000/\(∀ pl∈ch,pl.Nodup/\pl.length<=2000/\∀ x∈pl,InR x U.length)/\(∀ x,InR x ch.length->f x∈ch.getD x.toNat [])/\(∀ x y,InR x ch.length->InR y ch.length->f x=f y->x=y)/\
 ∀ (tk hd:Tb) (tp vp:List Int),tp.length=ch.length->vp.length=U.length->Mend (ChM (Mk0 (csOf U row ch))) (cM (Mk0 (csOf U row ch))) (at0 (U.map (zY ch.length))) ch.length U.length ch.length (at0 tp) (at0 vp) tk hd->
  Q true (.tuple [.str "row", dI (zP U tk ch.length),.int (zN (zP U tk ch.length) row).length,dI tp,dI vp])
theorem zko{ta:TE}(K)(a:PE X e ta)(c:attributeBase e f X.env (eval e X.env)=eval e X.env)(b:X.K=K:=by rfl):PE X (.Attribute e f pos) (tFld K ta f):=b ▸ jB a c
theorem zji{X:Cx}{es:List Expr}{pos:Pos}(K)(n)(c:X.calm=true)(h:PGs X es t)(b:(assignEach es X.env).length=n:=by rfl)(a:(assignEach es X.env).findIdx? (·.1)=none:=by rfl)(e:X.K=K:=by rfl):PG X (.Tuple es k pos) (gTup K n t):=e ▸ zch c h b a
theorem zbO(h:row.length=ch.length):(csOf U row ch).length=ch.length:=by unfold csOf;simp_all
theorem zaK(h:row.length=ch.length)(a:i<ch.length):(csOf U row ch).getD i []=zR U (row.getD i 0) (ch.getD i []):=by
 unfold csOf
 simp_all
theorem zfe(h:row.length=ch.length)(c:its∈csOf U row ch):∃ pl∈ch,its.map (·.1)=pl:=by
 obtain⟨i,b,e⟩:=Yam c;rw [zbO h] at b;have a:(csOf U row ch).getD i []=its:=by simp_all
 rw [zaK h b] at a;refine⟨ch.getD i [],by simp_all,?_⟩
 rw [<-a];unfold zR;rw [YaD];exact List.map_id' _
theorem Mend.zero0{l:List Int}:Mend Ch c (at0 l) A B 0 (at0 (Xb n 0)) (at0 l) [] [] where
 mat:=fun s c=>⟨fun e=>(by cases e),fun e=>(by cases e)⟩
 ot:=TbOk.nil _ _
 oh:=TbOk.nil _ _
 dom:=fun x=>⟨fun e=>(by cases e),fun e=>#[94]⟩
 ed:=fun x v e=>by cases e
 low:=fun x v b a=>by lia
 free:=fun _ _=>rfl
 zero:=fun x _=>by
  unfold at0
  grind
 top:=fun _=>Wbz _
theorem zbx{K:Ybf}{H0 G:Hp}:∀ {l:List Int},RdNs K H0 G (l.map .int) (l.map .int)
 | []=>.nil
 | n::l=>.cons (.int n) zbx
theorem zjk(cl:Cls K C)(n2:zO K C "turn_prices")(n3:zO K C "visit_prices")(n5:zO K C "taken")(hlen:mg "len" = none)(am:mg "range" = none)(hz:mg "zip" = none)(hC:mg "Market" = some (.ref C))(MK:Mk K C fi)(FI:FnOk P w K mg base (CXR P w) 2 fi fdi ["self", "visits", "costs"] (zgR K C))(BI:Binds K fdi ["self", "visits", "costs"] [])
 (GC:Df P w K mg base 1 "costs_of_turns" ["visits", "choices", "row"] (zdJ K)) (GS:Df P w K mg base 5 "serve" ["market", "start"] (zcS C tb))
   (F:Fun K "mend_visits" "mend_visits" zaF f fd):FnOk P w K mg base (CXR P w) 6 f fd ["visits", "choices", "row"] (spU tb K JP):=by
 have S:FnScope ["visits", "choices", "row", "market", "turn", "new", "changes"] ["visits", "choices", "row"] (zg zaF):=⟨rfl,rfl,rfl,#[3],rfl,#[3],#[3]⟩
 refine F.okR S (fun vs H Q E h=>?_) (fun c1 A bg s H vs Q E hr h=>?_)
 . obtain⟨_,_,_,_,r,_,_,_,_,rfl,_⟩:=h;exact r.length
 obtain⟨tu,G,ds,sG,rds,U,n,row,g,rfl,hl,ak,as,hpl,hg,ax,q⟩:=h
 obtain⟨v,c,r,rfl,rv,rc,rr⟩:∃ v c r,vs=[.ref v,.ref c,.ref r]/\RdV K G (.ref v) (.list (U.map dW))/\RdV K G (.ref c) (.list (n.map dI))/\RdV K G (.ref r) (dI row):=by
  cases rds with
  | cons a rds=>
   cases rds with
   | cons b rds=>
    cases rds with
    | cons d rds=>
     cases rds;have a2:=a
     have b2:=b;have d2:=d;unfold dI at d2;cases a2 with
     | lst _ _=>
      cases b2 with
      | lst _ _=>
       cases d2 with
       | lst _ _=>exact⟨_,_,_,rfl,a,b,d⟩
 obtain⟨xv,qv,rvs⟩:∃ xs,SqL K G v xs/\RdVs K G xs (U.map dW):=by cases rv with|lst a b=>exact⟨_,a,b⟩
 obtain⟨xr,qr,ae⟩:∃ xs,SqL K G r xs/\RdVs K G xs (row.map .int):=by cases rr with|lst a b=>exact⟨_,a,b⟩
 have ae:=zca ae;subst ae
 have hu:=zT hr;refine⟨_,zL (jd (i:=3) S.nd rfl (.inr rfl) (zhO MK FI (hr.mono #[1]) rfl hC BI .nil jH (zn (pv 0) (zn (jy GC (hr.mono #[1]) rfl jH (zn (pv 0) (zn (pv 1) (zn (pv 2) zJ)))) zJ))))
  (zL (ZR WaP rfl (zc3 rfl am (zn (ZW (r:=zcd K) za9 rfl hlen zC (zn (pv 2) zJ)) zJ)) (jl (i:=4) S.nd rfl (.inl rfl)) (jf (j0 (jy GS (hr.mono #[1]) rfl jH (zn (pv 3) (zn (pv 4) zJ))))))
  (zL (by exact zbv (i:=5) S.nd rfl (.inl rfl) ["turn"] ["visits", "market"] [0,3] rfl (z0 (osc:=zg zaF) #[3]) rfl (zc3 rfl am (zn (ZW (r:=zcd K) za9 rfl hlen zC (zn (pv 2) zJ)) zJ)) (fun s H fp cl=>⟨jl (i:=0) (show((["turn"]:List Xk)++(["visits", "market"]:List Xk)).Nodup by decide) rfl (.inl rfl),zaE,jI (r:=rIxT K) zb1 (jI (r:=rIxL K) Jg (pv 1) (jL hu (zko K (pv 2) rfl) (pv 0) (fun _ _=>rfl)) (fun _ _=>rfl)) jO (fun _ _=>rfl)⟩))
  (zL (jd (i:=6) S.nd rfl (.inl rfl) (ZW (r:=zcd K) za9 rfl hlen zC (zn (by exact zaP ["clan", "former"] [] [] rfl (z0 (osc:=zg zaF) #[3]) rfl (zcI rfl hz (zn (pv 5) (zn (pv 2) zJ))) (fun s H fp cl=>⟨zji K 2 rfl (JS (jl (i:=0) (show((["clan", "former"]:List Xk)++([]:List Xk)).Nodup by decide) rfl (.inl rfl)) (JS (jl (i:=1) (show((["clan", "former"]:List Xk)++([]:List Xk)).Nodup by decide) rfl (.inl rfl)) zbQ)),zd8 (zbo zge (pv 0) (pv 1) (nomark _)),pv 0⟩)) zJ)))
   (jf (J4 (zbS (zn zf2 (zn (pv 5) (zn (pv 6) (zn (jB (pv 3) rfl) (zn (jB (pv 3) rfl) zJ))))))))))),?_⟩
 refine Sq fun ν ζ=>?_;refine⟨.ref v,rfl,.ref v,rfl,.ref c,rfl,.ref r,rfl,v,c,r,G,U,n,row,rfl,sG,rv,rc,rr,hl,ak,hpl,fun aC O H1 s1 c2 hC1 hdl bw m M ag a6 ndx=>?_⟩
 have g1:=sG.trans s1;have up:∀ b o,H1 b=some o->bar (upd (upd H1 M (.own m)) m (.ins C M [])) [m] b=some o:=fun b o e=>by
  have nm:b≠m:=(fun z=>by rw [z,ag] at e;cases e)
  rw [z6 (by simp [nm]),zc nm,zc (fun z=>by rw [z,a6] at e;cases e)];exact e
 have bt:aC≠m:=(fun z=>by rw [z,ag] at hC1;cases hC1)
 have nCd:aC≠M:=(fun z=>by rw [z,a6] at hC1;cases hC1)
 have C1:upd (upd H1 M (.own m)) m (.ins C M []) aC=some (.lst (O.map .ref)):=by rw [zc bt,zc nCd];exact hC1
 have aa:∀ b,upd (upd H1 M (.own m)) m (.ins C M []) b=none->H1 b=none:=fun b e=>by
  by_cases z:b=m
  . rw [z];exact ag
  . rw [zc z] at e
    by_cases y:b=M
    . rw [y];exact a6
    . rwa [zc y] at e
 refine⟨m,M,v,aC,G,U,O,rfl,zf,⟨fun b o e=>up b o (g1.s b o e),g1.cl⟩,rv,C1,#[0],as,fun aT u aK aH H2 s2 ao b4 hK0 bi bb bp m2 t2 v2 k2 h2=>⟨rfl,ζ _ _ ?_⟩⟩
 have af:zh H1 H2:=(show Same H1 _ from up).x.trans s2
 have ar:H2 M=some (.own m):=s2.at ((z6 (by simp [ndx])).trans ((zc ndx).trans zf))
 have hT:H aT=none:=s1.free (aa _ ao);have hV:H u=none:=s1.free (aa _ b4);have hK:H aK=none:=s1.free (aa _ hK0);have hH:H aH=none:=s1.free (aa _ bi);have bc:aC≠aT:=(fun z=>by rw [z,ao] at C1;cases C1)
 have nCV:aC≠u:=(fun z=>by rw [z,b4] at C1;cases C1)
 have C2:H2 aC=some (.lst (O.map .ref)):=af.at hC1;have b1:=s1.trans af;rw [hdl] at t2 v2;have bj:Mkt C H2 m ⟨M,aC,aT,u,aK,aH,O,csOf U row n,Xb n.length 0,U.map (zY n.length),[],[]⟩:=⟨m2,ar,C2,by rw [zbO hl];exact hdl,fun i d e=>let ⟨o,ho⟩:=bw i d e;⟨o,af.at ho⟩,t2,v2,k2,h2⟩
 have ac:=zbO (U:=U) hl;have ba:∀ x,InR x n.length->ChM (Mk0 (csOf U row n)) x (g x):=fun x hx=>by
  obtain⟨x0,x1⟩:=hx;refine⟨by show InR x (csOf U row n).length;rw [ac];exact⟨x0,x1⟩,?_⟩
  show(getM ((csOf U row n).getD x.toNat []) (g x)).isSome=true
  rw [zaK hl #[0]]
  obtain⟨y,e⟩:=zbi (t:=zR U (row.getD x.toNat 0) (n.getD x.toNat [])) (k:=g x) (by
   unfold zR;rw [YaD];exact Ya7.mpr ⟨g x,hg x ⟨x0,x1⟩,rfl⟩)
  rw [e];rfl
 have aw:(((row.map V.int).length:Nat):Int).toNat=n.length:=by rw [Xi,YaR,hl]
 have hj1:-(2 ^ 62)<=(((row.map V.int).length:Nat):Int):=#[0]
 have aj:(((row.map V.int).length:Nat):Int)<2 ^ 62:=by rw [YaR,hl];omega
 refine Sq fun ν ζ=>?_;refine⟨.ref r,rfl,r,_,rfl,.inl ((sG.trans b1).seq qr),_,rfl,hj1,aj,?_⟩
 rw [aw];refine⟨fun i k σ' H'=>i<=n.length/\k=n.length - i/\(∃ t4,σ'=[some (.ref v),some (.ref c),some (.ref r),some (.ref m),t4,none,none])/\zh H H'/\∃ (Y vp:List Int) (L hd:Tb),Y.length=n.length/\vp.length=U.length/\Mkt C H' m ⟨M,aC,aT,u,aK,aH,O,csOf U row n,Y,vp,L,hd⟩/\Mend (ChM (Mk0 (csOf U row n))) (cM (Mk0 (csOf U row n))) (at0 (U.map (zY n.length))) n.length U.length i (at0 Y) (at0 vp) L hd,
  ⟨_,Wby _,rfl,⟨none,rfl⟩,b1,_,_,_,_,Ybb,YaR ..,bj,Mend.zero0⟩,?_⟩
 rintro i k σ' H3 ⟨hi,rfl,⟨t4,rfl⟩,s3,Y,vp,L,hd,l1,l2,J,me3⟩
 by_cases B:i<n.length
 . refine .inr ⟨B,fun σ' H'=>(∃ t4,σ'=[some (.ref v),some (.ref c),some (.ref r),some (.ref m),t4,none,none])/\zh H H'/\∃ (Y vp:List Int) (L hd:Tb),Y.length=n.length/\vp.length=U.length/\Mkt C H' m ⟨M,aC,aT,u,aK,aH,O,csOf U row n,Y,vp,L,hd⟩/\Mend (ChM (Mk0 (csOf U row n))) (cM (Mk0 (csOf U row n))) (at0 (U.map (zY n.length))) n.length U.length (i+1) (at0 Y) (at0 vp) L hd,fun σ2 H2 z=>⟨n.length - (i+1),#[0],B,rfl,z⟩,?_⟩
   rintro x H4 ⟨e4,ex⟩
   rw [Wbr] at ex;have e4:=e4.symm;subst ex e4;refine⟨.ref m,rfl,.int i,rfl,m,i,n.length,U.length,⟨M,aC,aT,u,aK,aH,O,csOf U row n,Y,vp,L,hd⟩,_,g,rfl,tu.same s3,J,⟨bc,nCV,bb,bp⟩,⟨ac,l1,l2,fun bx h=>?_,fun bx h p hp=>?_,ak,as⟩,B,me3,ba,ax,fun bu bf br bn T a1 a2 a3 a4 a5=>⟨⟨_,rfl⟩,zh.via s3 (fun a ha=>?_) (fun a ha=>?_) a4,bu,bf,br,bn,a1,a2,a5,a3⟩⟩
   . obtain⟨pl,h1,h2⟩:=zfe hl h
     rw [h2];exact(hpl pl h1).1
   . obtain⟨pl,h1,h2⟩:=zfe hl h
     exact(hpl pl h1).2.2 _ (by rw [<-h2];exact Ya7.mpr ⟨p,hp,rfl⟩)
   . simp only [Wbe,Wa0,or_false] at ha
     rcases ha with rfl|rfl|rfl|rfl
     . exact hT
     . exact hV
     . exact hK
     . exact hH
   . simp only [Wbe,Wa0,or_false] at ha
     rcases ha with rfl|rfl|rfl|rfl
     . exact⟨_,J.lt,(by intro _ z;cases z)⟩
     . exact⟨_,J.lv,(by intro _ z;cases z)⟩
     . exact⟨_,J.dk,(by intro _ z;cases z)⟩
     . exact⟨_,J.dh,(by intro _ z;cases z)⟩
 have e:i=n.length:=#[0]
 subst e;clear hi B;refine .inl ⟨YaY _,ζ _ _ ?_⟩;refine Sq fun ν ζ=>?_;refine⟨.ref r,rfl,r,_,rfl,.inl ((sG.trans s3).seq qr),_,rfl,hj1,aj,fun D hD=>?_⟩
 rw [aw];have au:=s3.free hD;have s4:∀ o,zh H (upd H3 D o):=fun o=>s3.trans (zx hD o).x
 have u4:∀ {b:Addr} {o o':HO},H3 b=some o'->upd H3 D o b=some o':=fun {b o o'} e=>(zc (fun z=>by rw [z,hD] at e;cases e)).trans e
 refine⟨fun i k ys Z H4=>i<=n.length/\k=n.length - i/\(∃ t0,Z=[t0,some (.ref v),some (.ref m)])/\ys=(zP U L i).map .int/\H4=upd H3 D (.lst ys),⟨_,Wby _,rfl,⟨none,rfl⟩,rfl,rfl⟩,?_⟩
 rintro i k ys Z H4 ⟨hi,rfl,⟨t0,rfl⟩,rfl,rfl⟩
 have ab:∀ i,(zP U L i).length=i:=fun i=>by unfold zP;rw [YaR,YaG]
 by_cases B:i<n.length
 . refine .inr ⟨B,?_⟩
   rintro x T ⟨e5,ex⟩
   rw [Wbr] at ex;have e5:=e5.symm;subst ex e5;obtain⟨X,ai⟩:=Wah.mp ((me3.dom i).mpr ⟨#[0],#[0]⟩)
   obtain⟨k0,k1⟩:=(me3.ot.get ai).2;have hcd:(U.map dW)[X.toNat]?=some (dW (U.getD X.toNat (0,0,0,none))):=by rw [Ya0,YaP,YaQ (show X.toNat<U.length by omega)];rfl
   have b7:zP U L (i+1)=zP U L i++[(U.getD X.toNat (0,0,0,none)).1]:=by
    unfold zP;rw [Wa6,Ya2,YI,ai];rfl
   generalize U.getD X.toNat (0,0,0,none)=wn at *;obtain⟨wv,bo,rw'⟩:=rvs.get hcd;obtain⟨wa,ws,rfl,qw,rws⟩:∃ wa ws,wv=.ref wa/\SqT K G wa ws/\RdVs K G ws [.int wn.1,.int wn.2.1,.int wn.2.2.1,dO wn.2.2.2]:=by
    unfold dW at rw';cases rw' with
    | tup a b=>exact⟨_,_,rfl,a,b⟩
   obtain⟨ws',rfl⟩:∃ ws',ws=.int wn.1::ws':=by
    cases rws with
    | cons a b=>cases a;exact⟨_,rfl⟩
   have bl:atI xv X=some (.ref wa):=by
    have:=jb (xs:=xv) (j:=X.toNat) (v:=.ref wa) bo;rwa [show((X.toNat:Nat):Int)=X from WaC k0] at this
   refine⟨.ref v,rfl,.ref m,rfl,m,C,M,_,.ref aK,rfl,u4 J.ins,cl,n5,rfl,.int i,rfl,aK,.int X,rfl,?_,v,xv,X,.ref wa,rfl,rfl,(sG.trans (s4 _)).seq qv,bl,wa,_,0,.int wn.1,rfl,rfl,(sG.trans (s4 _)).tup qw,jb (j:=0) rfl,zf,?_,n.length - (i+1),#[0],B,rfl,⟨_,rfl⟩,by rw [b7,Ya2];rfl,Z7⟩
   . have:=DGet.k (k:=Xn (i:Int)) (u4 (o:=.lst ((zP U L i).map .int)) J.dk)
     rwa [jp,show getM _ (i:Int)=some X from ai] at this
   . rw [YaR,ab]
     exact WaE (show _<=60 by omega) #[1]
 have e:i=n.length:=#[0]
 subst e;clear hi B;refine .inl ⟨YaY _,ζ _ _ ?_⟩;refine Sq fun ν ζ=>?_;have nl:=ab n.length;have s4:=s4 (.lst ((zP U L n.length).map .int));have D4:upd H3 D (.lst ((zP U L n.length).map .int)) D=some (.lst ((zP U L n.length).map .int)):=zf;have m4:=u4 (o:=.lst ((zP U L n.length).map .int)) J.ins;have bz:=u4 (o:=.lst ((zP U L n.length).map .int)) J.lt;have b8:=u4 (o:=.lst ((zP U L n.length).map .int)) J.lv
 generalize upd H3 D (.lst ((zP U L n.length).map .int))=H4 at *;generalize ay:zP U L n.length=new at *;refine⟨.ref D,rfl,.ref r,rfl,D,r,rfl,⟨_,SqL.of D4⟩,⟨_,(sG.trans s4).seq qr⟩,fun D2 hD2=>?_⟩
 have c3:D≠D2:=(fun z=>by rw [z,hD2] at D4;cases D4)
 refine⟨fun i k ys Z T=>i<=n.length/\k=n.length - i/\(∃ t0 t1,Z=[t0,t1])/\ys=(zN (new.take i) (row.take i)).map .int/\T D2=some (.lst ys)/\zh H4 T,⟨_,Wby _,rfl,⟨none,none,rfl⟩,rfl,zf,(zx hD2 _).x⟩,?_⟩
 rintro i k ys Z T ⟨hi,rfl,⟨t0,t1,rfl⟩,rfl,a7,s5⟩
 have q1:SqL K T D (new.map .int):=SqL.of (s5.at D4);have q2:SqL K T r (row.map .int):=(sG.trans (s4.trans s5)).seq qr
 by_cases B:i<n.length
 . have h1:(new.map V.int)[i]?=some (.int new[i]):=by rw [Ya0,YaQ #[0]];rfl
   have h2:(row.map V.int)[i]?=some (.int row[i]):=by rw [Ya0,YaQ #[0]];rfl
   have a8:zN (new.take (i+1)) (row.take (i+1))=zN (new.take i) (row.take i)++if new[i]=row[i] then [] else [new[i]]:=by
    unfold zN;rw [WaQ,WaQ,YaQ (show i<new.length by omega),YaQ (show i<row.length by omega)]
    rw [show(some new[i]).toList=[new[i]] from rfl,show(some row[i]).toList=[row[i]] from rfl,List.zip_append (by rw [WaW,WaW];omega),WaG,Ya2]
    by_cases e:new[i]=row[i]
    . rw [if_pos e];simp [e]
    . rw [if_neg e];simp [e]
   have hcl:(zN (new.take i) (row.take i)).length<sizeLine:=by
    unfold zN;rw [YaR];refine WaE (Ya5 (Waw _ _) ?_) (show 60<sizeLine by decide)
    rw [Wk,WaW,WaW];omega
   generalize new[i]=a at *;generalize row[i]=b at *;refine .inr ⟨⟨_,_,_,_,q1,q2,h1,h2⟩,?_⟩
   rintro x H6 ⟨p,x',y',hp,rfl,rfl,b0⟩
   obtain⟨e1,R⟩:=b0 _ _ q1 q2;rw [h1] at e1;rw [h2] at R;cases e1;cases R;have s6:=s5.trans (zx hp (.tup [.int a,.int b])).x;have D6:upd T p (.tup [.int a,.int b]) D2=some (.lst ((zN (new.take i) (row.take i)).map .int)):=(zc (fun z=>by rw [z,hp] at a7;cases a7)).trans a7
   refine⟨p,[.int a,.int b],rfl,SqT.of zf,rfl,_,_,rfl,_,_,rfl,rfl,.int a,rfl,.int b,rfl,rfl,_,rfl,?_⟩
   show if(!decide (V.int a=V.int b))=true then _ else _
   by_cases e:a=b
   . rw [if_pos e,Yao] at a8
     rw [if_neg (by rw [e,decide_eq_true rfl];decide)]
     exact⟨n.length - (i+1),#[0],B,rfl,⟨_,_,rfl⟩,by rw [a8],D6,s6⟩
   . rw [if_neg e] at a8
     rw [if_pos (by rw [decide_eq_false (fun z=>e (by cases z;rfl))];rfl)]
     exact⟨.int a,rfl,D6,by rw [YaR];exact hcl,n.length - (i+1),#[0],B,rfl,⟨_,_,rfl⟩,by rw [a8,Ya2];rfl,zf,s6.chg hD2 D6 (by intro _ z;cases z)⟩
 have e:i=n.length:=#[0]
 subst e;clear hi B;rw [show new.take n.length=new by rw [<-nl];exact YaH,show row.take n.length=row by rw [<-hl];exact YaH] at a7
 rw [show new.take n.length=new by rw [<-nl];exact YaH,show row.take n.length=row by rw [<-hl];exact YaH]
 refine .inl ⟨⟨_,_,q1,q2,by rw [YaR,YaR,nl,hl,WP]⟩,D2,_,rfl,.inl (SqL.of a7),ζ _ _ ?_⟩
 rw [YaR];have b6:=s4.trans s5;refine⟨.ref D,rfl,.int _,rfl,.ref m,rfl,m,C,M,_,.ref aT,rfl,s5.at m4,cl,n2,rfl,.ref m,rfl,m,C,M,_,.ref u,rfl,s5.at m4,cl,n3,rfl,by show 5<=sizeLine;decide,fun p hp=>?_⟩
 have be:=b6.free hp;have s6:=b6.trans (zx hp (.tup [.str "row", .ref D,.int ((zN new row).length:Nat),.ref aT,.ref u])).x;have u6:∀ {b:Addr} {o o':HO},T b=some o'->upd T p o b=some o':=fun {b o o'} e=>(zc (fun z=>by rw [z,hp] at e;cases e)).trans e
 have D6:=u6 (o:=.tup [.str "row", .ref D,.int ((zN new row).length:Nat),.ref aT,.ref u]) (s5.at D4);have T6:=u6 (o:=.tup [.str "row", .ref D,.int ((zN new row).length:Nat),.ref aT,.ref u]) (s5.at bz);have V6:=u6 (o:=.tup [.str "row", .ref D,.int ((zN new row).length:Nat),.ref aT,.ref u]) (s5.at b8);have P6:upd T p (.tup [.str "row", .ref D,.int ((zN new row).length:Nat),.ref aT,.ref u]) p=some (.tup [.str "row", .ref D,.int ((zN new row).length:Nat),.ref aT,.ref u]):=zf
 show Q (.ref p) (upd T p (.tup [.str "row", .ref D,.int ((zN new row).length:Nat),.ref aT,.ref u]))
 generalize upd T p (.tup [.str "row", .ref D,.int ((zN new row).length:Nat),.ref aT,.ref u])=H6 at *;have g6:=sG.trans s6;have an:∀ b∈[D,aT,u,p],H b=none:=fun b hb=>by
  simp only [Wbe,Wa0,or_false] at hb
  rcases hb with rfl|rfl|rfl|rfl
  . exact au
  . exact hT
  . exact hV
  . exact be
 refine q L hd Y vp l1 l2 me3 (.ref p) (fun b=>if b∈[D,aT,u,p] then H6 b else G b) H6 ⟨fun b o e=>?_,s6,⟨fun b o e=>?_,fun b x e=>?_⟩,fun b o e=>?_⟩ ?_
 . show(if b∈[D,aT,u,p] then H6 b else G b)=some o
   rw [if_neg fun z=>by have:=an b z;rw [sG.s b o e] at this;cases this];exact e
 . have e:(if b∈[D,aT,u,p] then H6 b else G b)=some o:=e
   split at e
   . exact e
   . exact g6.s b o e
 . have R:(if b∈[D,aT,u,p] then H6 b else G b)=some (.ext x):=e
   clear e
   by_cases hb:b∈[D,aT,u,p]
   . rw [if_pos hb] at R
     simp only [Wbe,Wa0,or_false] at hb
     rcases hb with rfl|rfl|rfl|rfl
     . rw [D6] at R;cases R
     . rw [T6] at R;cases R
     . rw [V6] at R;cases R
     . rw [P6] at R;cases R
   . rw [if_neg hb] at R
     exact sG.cl b x R
 . have e:(if b∈[D,aT,u,p] then H6 b else G b)=some o:=e
   split at e
   . rename_i hb;exact .inr (.inl (an b hb))
   . exact .inl e
 . have ap:∀ {b:Addr} {o:HO},b∈[D,aT,u,p]->H6 b=some o->(if b∈[D,aT,u,p] then H6 b else G b)=some o:=fun hb e=>by rw [if_pos hb];exact e
   have nw:RdN K H (fun b=>if b∈[D,aT,u,p] then H6 b else G b) (.ref p) (.tuple [.str "row", dI new,.int (zN new row).length,dI Y,dI vp]):=.tup (ap (by simp) P6) (.cons (.str _) (.cons (.lst (ap (by simp) D6) au zbx) (.cons (.int _) (.cons (.lst (ap (by simp) T6) hT zbx) (.cons (.lst (ap (by simp) V6) hV zbx) .nil)))))
   rw [ay];exact⟨zcR nw,fun _=>nw⟩
end
theorem zjN{l:List Nat}(h:l.Nodup):(l.map fun i:Nat=>(i:Int)).Nodup:=by
 grind
def zcM(U:List Win)(ch:List (List Int))(row:List Int)(d:D):Prop:=
 (J8 U ch.length (fun k i=>(i:Int)∈ch.getD k []) d/\∀ x,d≠.tuple (.str "row" :: x))\/
 ∃ (f:Nat->Nat) (tk hd:Tb) (tp vp:List Int),(∀ k,k<ch.length->f k<U.length/\((f k:Nat):Int)∈ch.getD k [])/\(∀ i j,i<ch.length->j<ch.length->f i=f j->i=j)/\(∀ i,i<U.length->(U.getD i z4).2.2.2≠none->∃ k,k<ch.length/\f k=i)/\tp.length=ch.length/\vp.length=U.length/\
  Mend (ChM (Mk0 (csOf U row ch))) (cM (Mk0 (csOf U row ch))) (at0 (U.map (zY ch.length))) ch.length U.length ch.length (at0 tp) (at0 vp) tk hd/\
  d=.tuple [.str "row", dI (zP U tk ch.length),.int (zN (zP U tk ch.length) row).length,dI tp,dI vp]
noncomputable def lE(b:Int)(rows:List (List Int))(row:List Int)(cc:Int)(own:Bool)(n:Nat)(hd:List Int)(ps:List Addr)(g:Nat->Int×Int)(r:Env3):Env3:=[some (.sh true (.int b)),some (.sh false (.list (rows.map dI))),some (.sh false (.list (row.map Xa))),some (.sh true (.int cc)),some (.sh true (.bool own)),some (.sh true (.int n)),some (.ow true (hd.map Xa)),some (.tr ps ((Xe n).map fun k=>pr2 (g k)))]++r
theorem zhM(h:v∈pl):getM (zR U clan pl) v=some (cst1 U clan v):=by
 obtain⟨y,e⟩:=zbi (t:=zR U clan pl) (k:=v) (by unfold zR;simp_all)
 obtain⟨p,_,hp⟩:=Ya7.mp (JQ e)
 omega
theorem zbI:∀ {new row:List Int},new.length=row.length->((zN new row).length:Int)=((Xe new.length).map fun i=>if new.getD i 0=row.getD i 0 then(0:Int) else 1).sum
 | [],[],_=>rfl
 | a :: new, b :: row, h => by
  have c:=zbI (by simpa using h)
  rw [Xq,Wa,Ya1,YaD];show _=(if a=b then(0) else 1)+((Xe _).map fun i=>if new.getD i 0=row.getD i 0 then(0) else 1).sum
  rw [<-c];unfold zN;rw [Wy]
  grind
theorem zlj(u:row.length=ch.length)(q:∀ pl∈ch,∀ x∈pl,InR x U.length){f:Nat->Nat}{tk:Tb}{tp vp:List Int}(J:∀ k,k<ch.length->f k<U.length/\((f k:Nat):Int)∈ch.getD k [])(Q:∀ i j,i<ch.length->j<ch.length->f i=f j->i=j)(P:∀ i,i<U.length->(U.getD i z4).2.2.2≠none->∃ k,k<ch.length/\f k=i)
 (M:Mend (ChM (Mk0 (csOf U row ch))) (cM (Mk0 (csOf U row ch))) (at0 (U.map (zY ch.length))) ch.length U.length ch.length (at0 tp) (at0 vp) tk hd) :
 (∀ k,k<ch.length->∃ i:Nat,i<U.length/\getM tk (k:Int)=some (i:Int)/\(i:Int)∈ch.getD k [])/\(∀ i,i<U.length->(U.getD i z4).2.2.2≠none->∃ k:Nat,k<ch.length/\getM tk (k:Int)=some (i:Int))/\
 (((zN (zP U tk ch.length) row).length:Nat):Int)<=((Xe ch.length).map fun k=>if(U.getD (f k) z4).1=row.getD k 0 then(0:Int) else 1).sum:=by
 have g:=zbO (U:=U) u;have X:∀ (l:List Int) (i:Nat),at0 l (i:Int)=l.getD i 0:=fun l i=>by unfold at0;rw [if_pos #[0],Xi]
 have S:∀ i,i<U.length->at0 (U.map (zY ch.length)) (i:Int)=zY ch.length (U.getD i z4):=fun i b=>by
  rw [X,YaP,Ya0,YaP,YaQ b];rfl
 have s:∀ (x v:Int),ChM (Mk0 (csOf U row ch)) x v->InR x ch.length/\v∈ch.getD x.toNat []:=fun x v A=>by
  have c:InR x ch.length:=by have:=A.1;rwa [show(Mk0 (csOf U row ch)).cs.length=ch.length from g] at this
  refine⟨c,?_⟩
  obtain⟨y,e⟩:=Wah.mp A.2;have e:getM ((csOf U row ch).getD x.toNat []) v=some y:=e;rw [zaK u (by have:=c.1;have:=c.2;omega)] at e
  obtain⟨p,N,o⟩:=Ya7.mp (JQ e)
  injection o with e3
  rw [<-e3];exact N
 have m:∀ (t:Nat) (v:Int),t<ch.length->v∈ch.getD t []->ChM (Mk0 (csOf U row ch)) t v/\cM (Mk0 (csOf U row ch)) t v=cst1 U (row.getD t 0) v:=fun t v T a=>by
  have e:getM ((csOf U row ch).getD ((t:Int)).toNat []) v=some (cst1 U (row.getD t 0) v):=by
   rw [Xi,zaK u T,zhM a]
  refine⟨⟨⟨#[0],by show(t:Int)<(csOf U row ch).length;rw [g];omega⟩,?_⟩,?_⟩
  . show(getM ((csOf U row ch).getD ((t:Int)).toNat []) v).isSome=true
    rw [e];rfl
  . show(getM ((csOf U row ch).getD ((t:Int)).toNat []) v).getD 0=_
    rw [e];rfl
 have F:=M.fair (fun x v=>?_) (due:=fun v=>InR v U.length/\(U.getD v.toNat z4).2.2.2≠none) (fun v=>?_) (fun x v A=>?_) (f:=fun x=>((f x.toNat:Nat):Int)) (fun x c=>?_) (fun x y c W e=>?_) (fun v a hd=>?_)
 . have r:∀ k:Nat,k<ch.length->∃ i:Nat,i<U.length/\getM tk (k:Int)=some (i:Int)/\(i:Int)∈ch.getD k []:=fun k G=>by
    obtain⟨v,e⟩:=Wah.mp ((M.dom k).mpr ⟨#[0],#[0]⟩)
    obtain⟨_,n⟩:=s _ _ (M.ed _ _ e).1;rw [Xi] at n;obtain⟨K,v1⟩:=q _ (by rw [YaP,YaQ G];exact Ya4 _) v n
    refine⟨v.toNat,#[0],?_,?_⟩
    . rw [e,WaC K]
    . rw [WaC K];exact n
   refine⟨r,fun i b O=>?_,?_⟩
   . have:=F.1 (i:Int) ⟨#[0],#[0]⟩ ⟨⟨#[0],#[0]⟩,by rw [Xi];exact O⟩
     obtain⟨x,e⟩:=Wah.mp this;have o:=(M.mat x i).mpr e;have c:=(M.dom x).mp (by rw [o];rfl)
     exact⟨x.toNat,#[0],by rw [WaC c.1];exact o⟩
   . have I:(zP U tk ch.length).length=ch.length:=by unfold zP;rw [YaR,YaG]
     rw [zbI (by rw [I,u]),I]
     have E:=F.2.2;unfold sumF at E;refine Wbq (Wl ?_) (Wbq E (Wl ?_))
     . congr 1
       refine Yat fun i b=>?_
       have b:=Yba.mp b;obtain⟨v,a,e,n⟩:=r i b;show _=cM (Mk0 (csOf U row ch)) i ((getM tk i).getD 0);rw [e,Option.getD_some,(m i v b n).2];have R:(zP U tk ch.length).getD i 0=(U.getD ((v:Int)).toNat (0,0,0,none)).1:=by
        unfold zP;rw [YaP,Ya0,Yy b];show(U.getD ((getM tk (i:Int)).getD 0).toNat (0,0,0,none)).1=_;rw [e];rfl
       rw [R];rfl
     . congr 1
       refine Yat fun i b=>?_
       have b:=Yba.mp b;show cM (Mk0 (csOf U row ch)) i ((f ((i:Int)).toNat:Nat):Int)=_;rw [Xi,(m i _ b (J i b).2).2];unfold cst1;rw [Xi];rfl
 . show 0<=(getM ((csOf U row ch).getD x.toNat []) v).getD 0/\(getM ((csOf U row ch).getD x.toNat []) v).getD 0<=1
   cases e:getM ((csOf U row ch).getD x.toNat []) v with
   | none=>exact⟨#[1],#[1]⟩
   | some y=>
    have w:=JQ e
    by_cases c:x.toNat<ch.length
    . rw [zaK u c] at w
      obtain⟨p,_,o⟩:=Ya7.mp w
      injection o with e3 e4
      show 0<=y/\y<=1
      rw [<-e4];unfold cst1;split<;>exact⟨#[1],#[1]⟩
    . rw [YaP,Wav #[0]] at w;cases w
 . by_cases a:InR v U.length
   . have:=S v.toNat (by have:=a.1;have:=a.2;omega)
     rw [show((v.toNat:Nat):Int)=v from WaC a.1] at this
     rw [this];unfold zY;exact⟨fun h=>if_neg h.2,fun h=>if_pos (Waf fun z=>h ⟨a,z⟩)⟩
   . refine⟨fun h=>absurd h.1 a,fun _=>?_⟩
     unfold at0
     by_cases C:0<=v
     . rw [if_pos C,YaP,Wav];rfl
       rw [YaR];have:¬v<(U.length:Int):=fun z=>a ⟨C,z⟩
       omega
     . rw [if_neg C]
 . obtain⟨L,n⟩:=s _ _ A
   refine q _ ?_ v n
   obtain⟨B,H⟩:=L;rw [YaP,YaQ (show x.toNat<ch.length by omega)];exact Ya4 _
 . obtain⟨B,H⟩:=c
   have:=(m x.toNat _ #[0] (J x.toNat #[0]).2).1
   rwa [show((x.toNat:Nat):Int)=x from WaC B] at this
 . obtain⟨B,H⟩:=c
   obtain⟨Y,Z⟩:=W;have:=Q _ _ #[0] #[0] (Int.ofNat.inj e)
   omega
 . obtain⟨k,G,e⟩:=P v.toNat (by have:=a.1;have:=a.2;omega) hd.2
   refine⟨k,⟨#[0],#[0]⟩,?_⟩
   show((f ((k:Int)).toNat:Nat):Int)=v
   rw [Xi,e];exact WaC a.1
theorem zlB(w:okS l)(hB:okB (many l) bs)(ho:∀ p∈bs,okQ p.1/\okQ p.2)(L:IsWs l bs W)(hR:okRs (tot l) (many l) rs)(q:z8 (many l) (tot l).toNat row0)(R:kpP (zi l) (many l) (quoB (zi l) l) row0 bs)(J:RowK rs row0)(m:ch.length=(tot l).toNat)(a0:∀ pl∈ch,∀ x∈pl,InR x W.flatten.length)(F:ChOk rs W.flatten ch)(hg:g.length=ch.length)(hd:zcM W.flatten ch g d) :
 ∃ new tp vp:List Int,z8 (many l) (tot l).toNat new/\kpP (zi l) (many l) (quoB (zi l) l) new bs/\RowK rs new/\(zN new g).length<=(zN row0 g).length/\d=.tuple [.str "row", dI new,.int (zN new g).length,dI tp,dI vp]:=by
 have a4:=jM fun s hs=>(w.2.1 s hs).1
 have eT:(((tot l).toNat:Nat):Int)=tot l:=#[94]
 have M:=zc5 w L;have G:=(zcY w hB ho L row0 q).mp R;have hc:∀ v∈W.flatten,InR v.1 (many l):=fun v C=>by
  obtain⟨k,n,i,_,e⟩:=L.get C;rw [e];exact⟨by show(0:Int)<=(k:Int);lia,by show(k:Int)<_;lia⟩
 have B:=fun {d} p=>zjY (T:=(tot l).toNat) (by rw [eT];exact M) hc (by rw [eT];exact hR) q.1 G J (d:=d) p
 have a3:=fun I a2=>(zcY w hB ho L I a2).mpr
 generalize W.flatten=V at *;have P:V.Nodup:=by
  have:=Wae.mp M.nd;rw [WaO] at this;exact Wae.mpr (this.imp fun h e=>h (by rw [e]))
 rcases hd with ⟨X,a1⟩|⟨f,H,a5,tp,vp,h1,h2,h3,l1,l2,S,rfl⟩
 . obtain⟨r,_,_,_,e⟩:=B (by rw [<-m];exact X.imp fun k n i o=>F k n i o)
   exact absurd e (a1 _)
 have ex:∀ k,k<ch.length->∃ i,i<V.length/\keyW (V.getD i z4)=keyR row0 k/\(V.getD i z4).2.2.1<=(k:Int)+1/\Jx ((k:Int)+1) (V.getD i z4).2.2.2:=fun k n=>by
  obtain⟨v,C,E,e2,U⟩:=G.1 k (by rw [q.1,<-m];exact n)
  obtain⟨i,o,e⟩:=zdK C;exact⟨i,o,by rw [e];exact⟨E,e2,U⟩⟩
 obtain⟨y,u⟩:∃ y:Nat->Nat,∀ k,k<ch.length->y k<V.length/\keyW (V.getD (y k) z4)=keyR row0 k/\(V.getD (y k) z4).2.2.1<=(k:Int)+1/\Jx ((k:Int)+1) (V.getD (y k) z4).2.2.2:=by
  classical
  exact⟨fun k=>if h:k<ch.length then Classical.choose (ex k h) else 0,fun k n=>by
   dsimp only;rw [dif_pos n];exact Classical.choose_spec (ex k n)⟩
 have cl:∀ k,k<ch.length->(V.getD (y k) z4).1=row0.getD k 0:=fun k n=>congrArg Wo (u k n).2.1
 obtain⟨O,n2,n3⟩:=zlj hg a0 (f:=y) (fun k n=>⟨(u k n).1,(F k n _ (u k n).1).mpr ⟨(u k n).2.2.1,(u k n).2.2.2,by
  show ¬jz rs _ (V.getD (y k) z4).1
  rw [cl k n];exact zdn hR J⟩⟩) (fun i j o K e=>by
  have E:=(u i o).2.1;rw [e,(u j K).2.1] at E
  rcases WI i j with z|z|z
  . exact absurd E.symm (zbM (by rw [q.1,<-m];exact K) z)
  . exact z
  . exact absurd E (zbM (by rw [q.1,<-m];exact o) z)) (fun i o Z=>by
  have C:=Ja (d:=z4) o;obtain⟨k,n,e⟩:=zc7 (row:=row0) (c:=(V.getD i z4).1) row0.length (YaY _) (V.getD i z4).2.1 (M.one _ C).1 (by rw [YaH];exact G.2 _ C Z)
  have n:k<ch.length:=by rw [m,<-q.1];exact n
  exact⟨k,n,zcA P (u k n).1 o (za7 M.nd (Ja (u k n).1) C ((u k n).2.1.trans e))⟩) S
 have N:∀ k:Nat,k<ch.length->∀ i:Nat,getM H (k:Int)=some (i:Int)->((getM H (k:Int)).getD 0).toNat=i:=fun k _ i e=>by rw [e];exact Xi i
 have X:J8 V (tot l).toNat (fun k i=>mayP rs (V.getD i z4) ((k:Int)+1)) (.tuple [.str "row", .list ((Xe (tot l).toNat).map fun k:Nat=>.int (V.getD ((getM H (k:Int)).getD 0).toNat z4).1)]):=by
  refine .inl ⟨fun k=>((getM H (k:Int)).getD 0).toNat,fun k n=>?_,fun i j o K e=>?_,fun i o Z=>?_,rfl⟩
  . obtain⟨i,o,e,hm⟩:=O k (by rw [m];exact n)
    dsimp only;rw [N k (by rw [m];exact n) i e]
    exact⟨o,(F k (by rw [m];exact n) i o).mp hm⟩
  . obtain⟨a,ha,ea,_⟩:=O i (by rw [m];exact o)
    obtain⟨b,hb,eb,_⟩:=O j (by rw [m];exact K)
    dsimp only at e;rw [N i (by rw [m];exact o) a ea,N j (by rw [m];exact K) b eb] at e
    subst e;have u1:=(S.mat _ _).mp ea;rw [(S.mat _ _).mp eb] at u1;have:=Wa3 u1
    lia
  . obtain⟨k,n,e⟩:=n2 i o Z
    exact⟨k,by rw [<-m];exact n,N k n i e⟩
 obtain⟨row,r1,r2,r3,A⟩:=B X;have Q:row=zP V H ch.length:=by
  injection A with A
  injection A with _ A
  injection A with A
  injection A with A
  have:=congrArg (Yg fun d:D=>match d with|.int i=>i|_=>0) A
  rw [YaD,YaD] at this;have E:(Yg ((fun d:D=>match d with|.int i=>i|_=>0)∘Xa) row)=row:=by
   exact W9 row
  rw [E] at this;rw [<-this,m];rfl
 refine⟨zP V H ch.length,tp,vp,Q ▸ r1,Q ▸ a3 row r1 r2,Q ▸ r3,?_,rfl⟩
 have Y:row0.length=g.length:=by rw [q.1,hg,m]
 have h0:=zbI Y;rw [show row0.length=ch.length by rw [q.1,m]] at h0
 have U:((Xe ch.length).map fun k=>if(V.getD (y k) z4).1=g.getD k 0 then(0:Int) else 1)=(Xe ch.length).map fun i=>if row0.getD i 0=g.getD i 0 then(0:Int) else 1:=Yat fun k n=>by rw [cl k (Yba.mp n)]
 rw [U,<-h0] at n3
 lia
noncomputable def sl(ρ : Env3)(i:Nat):Option L3.Cl:=(ρ[i]?).getD none
noncomputable def hE37(ns:List Int)(l:List Spell)(t2 t3:Option L3.Cl)(r:Env3):Env3:=[some (.sh false (.list (ns.map .int))),some (.sh true (.list (l.map dS))),t2,t3,some (.sh true (.int (zi l))),some (.sh true (.list ((quoB (zi l) l).map dI)))]++r
noncomputable def fE(l:List Spell)(bs:List (Rat2×Rat2))(rs:List Rule)(row:List Int)(r:Env3):Env3:=[some (.sh true (.int (zi l))),some (.sh false (.list ((quoB (zi l) l).map dI))),some (.sh false (.list (bs.map dP))),some (.sh false (.list (rs.map dRl))),some (.sh false (.list (row.map Xa))),some (.sh true (.int (many l)))]++r
def wiP(b:Int)(q:List Int)(bs:List (Rat2×Rat2))(c:List Int):Prop:=∀ (k:Nat) (p:Rat2×Rat2),bs[k]?=some p->(q.getD k 0 - c.getD k 0*b)*p.1.2<=p.1.1*b/\(c.getD k 0*b - q.getD k 0)*p.2.2<=p.2.1*b
abbrev Tab:=List (List Int×Int)
noncomputable def getI(tb:Tab)(c:List Int):Option Int:=(tb.find? fun p=>decide (p.1=c)).map (·.2)
noncomputable def putI(tb:Tab)(c:List Int)(y:Int):Tab:=if(tb.any fun p=>decide (p.1=c))=true then tb.map (fun p=>if p.1=c then(p.1,y) else p) else tb++[(c,y)]
theorem zkP(a)(c c')(y):getI (putI a c y) c'=if c=c' then some y else getI a c':=by
 unfold putI
 split
 . rename_i h
   induction a with
   | nil=>cases h
   | cons p r b=>
    unfold getI at b ⊢;rw [Ya1,XM,XM]
    by_cases e:p.1=c
    . rw [if_pos e]
      by_cases g:c=c'
      . grind
      . have i:¬p.1=c':=fun z=>g (e.symm.trans z)
        simp only [i,decide_false]
        by_cases l:(r.any fun p=>decide (p.1=c))=true
        . exact b l
        . rw [if_neg g]
          have j:r.map (fun p=>if p.1=c then(p.1,y) else p)=r:=by
           refine(Yat fun p m=>?_).trans (W9 r)
           grind
          rw [j]
    . rw [if_neg e]
      grind
 . unfold getI
   grind
noncomputable def upd1(tb:Tab)(c:List Int)(y:Int):Tab:=putI tb c (if(getI tb c).getD y<y then(getI tb c).getD y else y)
noncomputable def encT(tb:Tab):List (List Key×D):=tb.map fun p=>(p.1.map Xn,Xa p.2)
theorem zdk:∀ {a b:List Int},(a.map Xn:List Key)=b.map Xn->a=b
 | [],[],_=>rfl
 | [],_::_,h=>by cases h
 | _::_,[],h=>by cases h
 | x :: r, y :: s, h => by
  injection h with h1 h2
  injection h1 with h1
  rw [h1,zdk h2]
theorem zfS(a c:List Int):decide ((a.map Xn:List Key)=c.map Xn)=decide (a=c):=by
 by_cases e:a=c
 . omega
 . rw [decide_eq_false e,decide_eq_false fun z=>e (zdk z)]
theorem zcQ(tb)(c):getT (encT tb) (c.map Xn)=(getI tb c).map Xa:=by
 unfold getT getI encT
 induction tb with
 | nil=>rfl
 | cons p r ih=>
  rw [Ya1,XM,zfS]
  grind
theorem zhk(a)(c)(y):putT (encT a) (c.map Xn) (.int y)=encT (putI a c y):=by
 have g:((encT a).any fun b=>decide (b.1=(c.map Xn)))=a.any fun p=>decide (p.1=c):=by
  unfold encT;rw [Ur]
  congr 1
  funext p
  exact zfS p.1 c
 unfold putT putI;rw [g]
 split
 . unfold encT
   rw [YaD,YaD];refine Yat fun p _=>?_
   show(if(p.1.map _)=c.map _ then _ else _)=_
   by_cases e:p.1=c
   . grind
   . rw [if_neg fun z=>e (zdk z)]
     omega
 . unfold encT
   simp
theorem zkJ(a)(c)(y):(putI a c y).length<=a.length+1:=by
 unfold putI
 split
 . simp
 . simp
theorem zaz(c:List Int):keyT (c.map Xn)=.tuple (c.map Xa):=by
 unfold keyT;rw [YaD];rfl
theorem zdY{tb:Tab}{p:List Int×Int}(h:p∈tb):∃ y,getI tb p.1=some y:=by
 unfold getI;have:(tb.find? fun r=>decide (r.1=p.1)).isSome=true:=WJ.mpr ⟨p,h,decide_eq_true rfl⟩
 obtain⟨r,a⟩:=Wah.mp this
 simp_all
theorem ze9{tb:Tab}{c:List Int}(h:getI tb c=some y):(c,y)∈tb:=by
 unfold getI at h;cases e:tb.find? _ with
 | none=>rw [e] at h;cases h
 | some r=>
  grind
theorem zkE{c:List Int}{i j:Int}(h:k<c.length)(e:i=k)(a:j=(k:Int)+1)(b:c[k]?=some x):cut (c.map Xa) none (some i)++[Xa (x+1)]++cut (c.map Xa) (some j) none=(had1 1 c k).map Xa:=by
 subst e a;rw [zea,zea,zk4 _ #[94] #[94],znK _ #[94] #[94]]
 unfold had1;rw [Xi,List.set_eq_take_append_cons_drop,if_pos h,YaP,b]
 simp
theorem zeJ(a):(encT a).map (fun kv=>keyT kv.1)=a.map fun p=>XI (p.1.map Xa):=by
 unfold encT;rw [YaD];exact Yat fun p _=>zaz p.1
noncomputable def cut3(l:List Spell):List Spell:=(l.filter fun s=>decide (0<(s.2.take 3).sum)).map fun s=>(s.1,s.2.take 3)
theorem zem(l)(s):cut3 (l++[s])=if 0<(s.2.take 3).sum then cut3 l++[(s.1,s.2.take 3)] else cut3 l:=by
 unfold cut3
 grind
theorem zhI(xs:List α):cut xs none (some 3)=xs.take 3:=by
 unfold cut;have h:=HT.sIx_nat xs.length xs.length 3;rw [show((3:Nat):Int)=3 from rfl] at h
 rw [h,HT.sIx_none]
 simp
theorem zfP(p:Spell->Bool)(f:Spell->Spell)(a:∀ s,(f s).1=s.1):∀ l:List Spell,(∀ s∈l,1<=s.1)->tot ((l.filter p).map f)<=tot l
 | [],_=>Wbz _
 | s :: r, h => by
  have b:=zfP p f a r fun x c=>h x (YaT _ c)
  unfold tot at b ⊢
  grind
theorem zmQ(hok:okS l)(hne:cut3 l≠[]):okS (cut3 l)/\many (cut3 l)<=3/\tot (cut3 l)<=tot l:=by
 have ht:tot (cut3 l)<=tot l:=zfP _ (fun s=>(s.1,s.2.take 3)) (fun _=>rfl) l fun s hs=>(hok.2.1 s hs).1
 have hlen:(cut3 l).length<=l.length:=by
  unfold cut3;rw [YaR];exact Waw _ _
 have hin:∀ s∈cut3 l,1<=s.1/\okW s.2/\s.2.length=min 3 (many l):=fun s hs=>by
  obtain⟨r,hr,rfl⟩:=Ya7.mp hs;obtain⟨h1,h2⟩:=Ya9.mp hr;obtain⟨g1,g2,g3⟩:=hok.2.1 r h1;have gl:=g2.1;refine⟨g1,⟨?_,fun w hw=>g2.2.1 w (List.mem_of_mem_take hw),fun z=>by lia⟩,?_⟩
  . rw [WaW];lia
  . rw [WaW,g3]
 have hm:many (cut3 l)=min 3 (many l):=by
  cases e:cut3 l with
  | nil=>exact absurd e hne
  | cons a r=>exact(hin a (by rw [e];exact YaV)).2.2
 have hl1:1<=(cut3 l).length:=by
  grind
 have h8:=hok.1.2;have h60:=hok.2.2;exact⟨⟨⟨hl1,#[94]⟩,fun s hs=>⟨(hin s hs).1,(hin s hs).2.1,by rw [hm];exact(hin s hs).2.2⟩,#[94]⟩,#[94],ht⟩
def z7(tb:Tab)(P:List Int->Int->Prop):Prop:=∀ c,(∀ m,getI tb c=some m->P c m/\∀ y,P c y->m<=y)/\∀ y,P c y->(getI tb c).isSome=true
theorem z7.put{tb:Tab}{P P':List Int->Int->Prop}(h:z7 tb P)(c)(y)(i:∀ c' y',P' c' y'↔P c' y'\/c'=c/\y'=y):z7 (upd1 tb c y) P':=by
 intro c';unfold upd1;rw [zkP]
 by_cases e:c=c'
 . subst e
   rw [if_pos rfl];refine⟨fun m j=>?_,fun _ _=>rfl⟩
   obtain⟨b,a⟩:=h c;cases g:getI tb c with
   | none=>
    grind
   | some l=>
    grind
 . rw [if_neg e]
   obtain⟨b,a⟩:=h c'
   grind
theorem z7.iff{tb:Tab}{P P':List Int->Int->Prop}(h:z7 tb P)(a:∀ c y,P' c y↔P c y):z7 tb P':=fun c=>⟨fun m e=>⟨(a _ _).mpr ((h c).1 m e).1,fun y z=>((h c).1 m e).2 y ((a _ _).mp z)⟩,fun y z=>(h c).2 y ((a _ _).mp z)⟩
def RchF(ok:Nat->List Int->Nat->Prop)(co:Nat->Nat->Int)(n:Nat):Nat->List Int->Int->Prop
 | 0,c,y=>c=Xb n 0/\y=0
 | t+1,c',y'=>∃ c y,RchF ok co n t c y/\∃ k:Nat,k<n/\c'=had1 1 c k/\ok t c' k/\y'=y+co t k
section
variable{ok:Nat->List Int->Nat->Prop}{co:Nat->Nat->Int}
theorem RchF.row:∀ {t:Nat} {c:List Int} {y:Int},RchF ok co n t c y↔∃ row,z8 n t row/\hadN 1 n row=c/\(∀ s,s<t->ok s (hadN 1 n (row.take (s+1))) (row.getD s 0).toNat)/\y=((Xe t).map fun s=>co s (row.getD s 0).toNat).sum
 | 0, c, y => by
  constructor
  . rintro⟨rfl,rfl⟩
    exact⟨[],⟨rfl,fun _ h=>by cases h⟩,rfl,fun s h=>absurd h (Yz _),rfl⟩
  . rintro⟨row,a,rfl,_,rfl⟩
    obtain rfl:=Wal.mp a.1;exact⟨rfl,rfl⟩
 | t + 1, c, y => by
  constructor
  . rintro⟨w,A,h,k,o,rfl,p,rfl⟩
    obtain⟨r,a,rfl,m,rfl⟩:=(RchF.row (t:=t)).mp h;have g:=a.1;have j:∀ s,s<t->(r++[(k:Int)]).getD s 0=r.getD s 0:=fun s b=>by
     rw [YaP,Yab #[0],<-YaP]
    have i:(r++[(k:Int)]).getD t 0=k:=by
     rw [YaP,Yae #[0],g,Wbs];rfl
    refine⟨r++[(k:Int)],⟨by simp [g],fun x q=>?_⟩,zaM 1 n r k,fun s b=>?_,?_⟩
    . rcases Ya3.mp q with z|z
      . exact a.2 x z
      . rw [Ya6.mp z];omega
    . by_cases e:s=t
      . subst e
        rw [i,Wao (by simp [g]),zaM];exact p
      . rw [j s #[0],Wab #[0]]
        exact m s #[0]
    . rw [Wa6,Ya2,Wa7,YI,WB,i]
      congr 2
      exact Yat fun s b=>by rw [j s (Yba.mp b)]
  . rintro⟨row,a,rfl,m,rfl⟩
    have l:row≠[]:=fun z=>by have:=a.1;rw [z] at this;simp at this
    obtain⟨r,k,rfl⟩:∃ r k,row=r++[k]:=⟨row.dropLast,row.getLast l,(List.dropLast_concat_getLast l).symm⟩;have g:r.length=t:=by have:=a.1;rw [YaS] at this;simp at this;exact this
    have o:=a.2 k (by simp)
    have j:∀ s,s<t->(r++[k]).getD s 0=r.getD s 0:=fun s b=>by
     rw [YaP,Yab #[0],<-YaP]
    have i:(r++[k]).getD t 0=k:=by
     rw [YaP,Yae #[0],g,Wbs];rfl
    have v:((k.toNat:Nat):Int)=k:=#[0]
    refine⟨hadN 1 n r,((Xe t).map fun s=>co s (r.getD s 0).toNat).sum,(RchF.row (t:=t)).mpr ⟨r,⟨g,fun c u=>a.2 c (Yai _ u)⟩,rfl,fun s b=>?_,rfl⟩,k.toNat,#[0],by rw [zaM,v],?_,?_⟩
    . have:=m s #[0]
      rwa [j s b,Wab #[0]] at this
    . have:=m t #[0]
      rwa [i,Wao (by simp [g])] at this
    . rw [Wa6,Ya2,Wa7,YI,WB,i]
      congr 2
      exact Yat fun s b=>by rw [j s (Yba.mp b)]
theorem RchF.len{c:List Int}(h:RchF ok co n t c y):c.length=n:=by
 obtain⟨a,_,rfl,_⟩:=RchF.row.mp h;exact zbe 1 n a
theorem RchF.small1{c:List Int}(h:RchF ok co n t c y)(g:k<n):∀ i,i<n->0<=(had1 1 c k).getD i 0/\(had1 1 c k).getD i 0<=(t:Int)+1:=fun i e=>by
 obtain⟨row,a,rfl,_⟩:=RchF.row.mp h;have:=zhZ (row:=row++[(k:Int)]) (fun x b=>by
  rcases Ya3.mp b with z|z
  . exact a.2 x z
  grind) (t:=t+1) (by simp [a.1]) e
 rw [Wao (by simp [a.1]),zaM] at this
 exact this
theorem z7.zero:z7 [(Xb n 0,0)] (RchF ok co n 0):=by
 intro c
 by_cases e:Xb n (0)=c
 . subst e
   have g:getI [(Xb n (0),(0))] (Xb n 0)=some 0:=by simp [getI]
   refine⟨fun y a=>?_,fun y _=>by rw [g];rfl⟩
   rw [g] at a;cases a;exact⟨⟨rfl,rfl⟩,fun b h=>by rw [h.2];simp⟩
 . have g:getI [(Xb n (0),(0))] c=none:=by simp [getI,e]
   exact⟨fun y a=>(by grind),fun y h=>absurd h.1.symm e⟩
def j7(ok:Nat->List Int->Nat->Prop)(co:Nat->Nat->Int)(t:Nat)(tb:Tab)(c:List Int)(k:Nat)(c':List Int)(y':Int):Prop:=∃ y,getI tb c=some y/\c'=had1 1 c k/\ok t c' k/\y'=y+co t k
theorem z7.next{tb:Tab}(h:z7 tb (RchF ok co n t))(B:z7 later fun c' y'=>∃ p∈tb,∃ k,k<n/\j7 ok co t tb p.1 k c' y'):z7 later (RchF ok co n (t+1)):=by
 have r:∀ c' y',RchF ok co n (t+1) c' y'->∃ m,(∃ p∈tb,∃ k,k<n/\j7 ok co t tb p.1 k c' m)/\m<=y':=fun c' y' e=>by
  refine Hd fun G Q=>?_;obtain⟨c,y,s,k,i,o,l,q⟩:=e;apply Q;obtain⟨z,E⟩:=h c;obtain⟨g,b⟩:=Wah.mp (E y s);have:=(z g b).2 y s;exact⟨g+co t k,⟨(c,g),ze9 b,k,i,g,b,o,l,rfl⟩,#[94]⟩
 intro c';obtain⟨C,u⟩:=B c';refine⟨fun m w=>?_,fun y' e=>?_⟩
 . refine Hd fun G Q=>?_;obtain⟨⟨p,_,k,i,y,F,o,l,q⟩,A⟩:=C m w;apply Q
   refine⟨⟨p.1,y,((h p.1).1 y F).1,k,i,o,l,q⟩,fun y' e=>?_⟩
   obtain⟨j,a,v⟩:=r c' y' e;have:=A j a
   lia
 . obtain⟨j,a,_⟩:=r c' y' e
   exact u j a
end
theorem z7.min{P:List Int->Int->Prop}{tb:Tab}(h:z7 tb P)(j:tb≠[]):(∃ c,P c (minL (tb.map fun p=>(getI tb p.1).getD 0)))/\∀ c y,P c y->minL (tb.map fun p=>(getI tb p.1).getD 0)<=y:=by
 constructor
 . obtain⟨p,i,e⟩:=Ya7.mp (zjA (by simpa using j))
   obtain⟨y,a⟩:=zdY i;rw [<-e,a];exact⟨p.1,((h p.1).1 y a).1⟩
 . intro c y a
   obtain⟨m,b⟩:=Wah.mp ((h c).2 y a);have g:=zkk (Ya7.mpr ⟨_,ze9 b,rfl⟩:(getI tb c).getD 0∈tb.map fun p=>(getI tb p.1).getD 0)
   rw [b] at g;exact Wbq g (((h c).1 m b).2 y a)
def okF(b:Int)(rows:List (List Int))(bs:List (Rat2×Rat2))(rs:List Rule)(t:Nat)(c:List Int)(k:Nat):Prop:=wiP b (rows.getD (t+1) []) bs c/\¬jz rs ((t:Int)+1) k
noncomputable def coF(row:List Int)(t k:Nat):Int:=if row.getD t 0=k then 0 else 1
def zd0(l:List Spell)(bs:List (Rat2×Rat2))(rs:List Rule)(r:List Int):Prop:=z8 (many l) (tot l).toNat r/\kpP (zi l) (many l) (quoB (zi l) l) r bs/\RowK rs r
def FewP(good:List Int->Prop)(row:List Int)(d:D):Prop:=(d=.none/\∀ r,¬good r)\/∃ m:Int,d=.int m/\(∃ r,good r/\((zN r row).length:Int)=m)/\∀ r,good r->m<=(zN r row).length
theorem zgZ(b:okS l)(y:bs.length=many l)(m:okRs (tot l) (many l) rs)(j:z8 (many l) (tot l).toNat r):(∀ s,s<(tot l).toNat->okF (zi l) (quoB (zi l) l) bs rs s (hadN 1 (many l) (r.take (s+1))) (r.getD s 0).toNat)↔kpP (zi l) (many l) (quoB (zi l) l) r bs/\RowK rs r:=by
 have u:=jM fun s a=>(b.2.1 s a).1
 have w:=zbX b (zi l);have A:=j.1;have e:∀ s,s<r.length->(wiP (zi l) ((quoB (zi l) l).getD (s+1) []) bs _↔∀ (k:Nat) (p:Rat2×Rat2),bs[k]?=some p->kp1 (zi l) (many l) _ r s k p):=fun s a=>by
  have g:s+1<(quoB (zi l) l).length:=#[94]
  have n:(quoB (zi l) l).getD (s+1) []=(quoB (zi l) l)[s+1]:=by simp_all
  refine forall_congr' fun k=>forall_congr' fun p=>imp_congr_right fun q=>?_
  have i:k<many l:=by have:=(Ya8.mp q).1;lia
  unfold kp1;rw [zhz j.2 a g (za8 b (Ya4 g)) i,Int.neg_sub,n]
 have c:∀ s,s<r.length->(((r.getD s 0).toNat:Nat):Int)=r.getD s 0:=fun s a=>by
  have:=j.2 (r.getD s 0) (Ja a)
  lia
 constructor
 . intro h
   refine⟨fun t o=>(e t o).mp (h t #[94]).1,zhi m #[94] fun k i=>?_⟩
   have:=(h k #[94]).2
   rwa [c k i] at this
 . rintro⟨v,z⟩ s a
   have a:s<r.length:=#[94]
   exact⟨(e s a).mpr (v s a),by rw [c s a];exact zdn m z⟩
theorem zkN(e:okS l)(g:bs.length=many l)(j:okRs (tot l) (many l) rs)(b:z8 (many l) (tot l).toNat row):(∃ c,RchF (okF (zi l) (quoB (zi l) l) bs rs) (coF row) (many l) (tot l).toNat c y)↔∃ r,zd0 l bs rs r/\y=(zN r row).length:=by
 have m:∀ r,z8 (many l) _ r->((Xe _).map fun s=>coF row s (r.getD s 0).toNat).sum=((zN r row).length):=fun r a=>by
  rw [zbI (by rw [a.1,b.1]),a.1]
  congr 1
  refine Yat fun s i=>?_
  have i:=Yba.mp i;have:=a.2 (r.getD s 0) (Ja (by rw [a.1];exact i))
  unfold coF
  grind
 constructor
 . rintro⟨c,h⟩
   obtain⟨r,a,_,n,rfl⟩:=RchF.row.mp h;exact⟨r,⟨a,(zgZ e g j a).mp n⟩,m r a⟩
 . rintro⟨r,⟨a,h⟩,rfl⟩
   exact⟨_,RchF.row.mpr ⟨r,a,rfl,(zgZ e g j a).mpr h,(m r a).symm⟩⟩
theorem zmV(hok:okS l)(hB:okB (many l) bs)(ho:∀ p∈bs,okQ p.1/\okQ p.2)(hW:IsWs l bs W)(hR:okRs (tot l) (many l) rs)(hg:z8 (many l) (tot l).toNat g)(hcl:ch.length=(tot l).toNat)(hin:∀ pl∈ch,∀ x∈pl,InR x W.flatten.length)(hch:ChOk rs W.flatten ch){e:D}(hd:zcM W.flatten ch g d)(he:FewP (zd0 l bs rs) g e) :
 (e=.none/\∃ (s:Str) (x:D),d=.tuple [.str s,x]/\s≠"row")\/∃ (m:Int) (new tp vp:List Int),e=.int m/\d=.tuple [.str "row", dI new,.int m,dI tp,dI vp]:=by
 rcases he with ⟨rfl,no⟩|⟨m,rfl,⟨r,hr,rfl⟩,hm⟩
 . refine .inl ⟨rfl,?_⟩
   rcases hd with ⟨hp,hnr⟩|⟨f,tk,hd',tp,vp,h1,h2,h3,_⟩
   . rcases hp with ⟨f,_,_,_,rfl⟩|⟨S,_,_,_,_,_,rfl⟩|⟨S,_,_,_,_,_,rfl⟩
     . exact absurd rfl (hnr _)
     . exact⟨_,_,rfl,#[1]⟩
     . exact⟨_,_,rfl,#[1]⟩
   . have htn:=jM fun s hs=>(hok.2.1 s hs).1
     have eT:(((tot l).toNat:Nat):Int)=tot l:=#[94]
     rw [hcl] at h1 h2 h3;obtain⟨a,b,c⟩:=zfE (by rw [eT];exact zc5 hok hW) (n:=many l) (fun v hv=>by
      obtain⟨k,hk,i,_,e⟩:=hW.get hv;rw [e];exact⟨#[94],by show(k:Int)<_;lia⟩) (by rw [eT];exact hR) (fun k hk=>⟨(h1 k hk).1,(hch k (by rw [hcl];exact hk) _ (h1 k hk).1).mp (h1 k hk).2⟩) h2 h3
     exact absurd ⟨a,(zcY hok hB ho hW _ a).mpr b,c⟩ (no _)
 . obtain⟨hr1,hr2,hr3⟩:=hr
   refine Hd fun G Q=>?_;obtain⟨new,tp,vp,a,b,c,le,rfl⟩:=zlB hok hB ho hW hR hr1 hr2 hr3 hcl hin hch (by rw [hg.1,hcl]) hd;apply Q
   have:=hm new ⟨a,b,c⟩
   grind
theorem zhN:okS [(3,[1,0,2])]:=by
 refine⟨⟨#[1],#[1]⟩,fun s a=>?_,#[1]⟩
 rw [Ya6.mp a];refine⟨#[1],⟨⟨#[1],#[1]⟩,fun w b=>?_,#[1]⟩,rfl⟩
 grind
section
variable{c:Law.Cl}
def Z0:Sp3:=fun ds Q E=>∃ ns k,ds=[dI ns,.int k]/\0<=k/\∀ v:Int,Q true (.int v)
def zaw:Sp3:=fun ds Q E=>∃ cc k,ds=[.int cc,.int k]/\0<=k/\k<100000/\∀ v:Int,Q true (.int v)
def zax:Sp3:=fun ds Q E=>∃ cc k,ds=[.int cc,.int k]/\0<=k/\k<100000/\∀ v:Int,Q true (.int v)
def ZV:Sp3:=fun ds Q E=>∃ ns m,ds=[dI ns,.int m]/\4<=m/\m<=60/\∀ l,okS l->tot l<=m->Q true (dSs l)
def ZZ:Sp3:=fun ds Q E=>∃ l,ds=[dSs l]/\okS l/\Q true (.tuple [.int (zi l),.list ((quoB (zi l) l).map dI)])
def zac:Sp3:=fun ds Q E=>∃ (b:Int) (rows:List (List Int)) (cc:Int) (n:Nat),ds=[.int b,.list (rows.map dI),.int cc]/\1<=n/\n<=8/\1<=rows.length/\rows.length<=61/\(∀ r∈rows,r.length=n)/\∀ row:List Int,row.length+1=rows.length->(∀ c∈row,0<=c/\c<n)->Q true (dI row)
def zad:Sp3:=fun ds Q E=>∃ a b,ds=[.int a,.int b]/\0<b/\Bits 9000 b/\Q true (dR a b)
def Z6:Sp3:=fun ds Q E=>∃ (b:Int) (rows:List (List Int)) (row:List Int) (cc:Int) (own:Bool) (n:Nat),ds=[.int b,.list (rows.map dI),dI row,.int cc,.bool own]/\0<b/\Bits 900 b/\1<=n/\n<=8/\rows.length<=61/\row.length+1=rows.length/\(∀ r∈rows,r.length=n)/\(∀ c∈row,0<=c/\c<n)/\∀ bs,okB n bs->(∀ p∈bs,okQ p.1/\okQ p.2)->Q true (dPs bs)
def ZD:Sp3:=fun ds Q E=>∃ (T n cc:Int),ds=[.int T,.int n,.int cc]/\1<=T/\T<=60/\1<=n/\n<=8/\∀ rs:List Rule,okRs T n rs->txtR rs->rs.length<=8->Q true (dRs rs)
def zab(c:Law.Cl):Sp3:=fun ds Q E=>∃ ws,ds=[dI ws]/\(okW ws->Q true .none)/\(¬okW ws->E c.NoSpell)
def Z1:Sp3:=fun ds Q E=>∃ l,ds=[dSs l]/\l.length<=1000/\Q true (.int (tot l))
def Zb(c:Law.Cl):Sp3:=fun ds Q E=>∃ l,ds=[dSs l]/\(okS l->Q true .none)/\(¬okS l->E c.NoSpell)
def zah:Sp3:=fun ds Q _=>∃ a b,ds=[.int a,.int b]/\Q true (.int (Xp a b))
def Zr:Sp3:=fun ds Q E=>∃ ws,ds=[dI ws]/\Q true (.int (gcdL ws))
def zay:Sp3:=fun ds Q E=>∃ l,ds=[dSs l]/\okS l/\Q true (.int (bot l))
def Z5:Sp3:=fun ds Q E=>∃ b ws,ds=[.int b,dI ws]/\okW ws/\Bits 2000 b/\Q true (dI (shares b ws))
def zaD(c:Law.Cl):Sp3:=fun ds Q E=>∃ l,ds=[dSs l]/\(okS l->Q true (.tuple [.int (bot l),.list ((quo l).map dI)]))/\(¬okS l->E c.NoSpell)
def Zo:Sp3:=fun ds Q E=>∃ (path:List Int) (w:Int),ds=[dI path,.int w]/\path.length<=61/\1<=path.length/\Q true (.int (zD path.length fun t=>decide (w<=path.getD t 0)))
def Zv:Sp3:=fun ds Q E=>∃ (b:Int) (path:List Int) (j:Int) (room:Int×Int),ds=[.int b,dI path,.int j,jJ room]/\path.length<=61/\1<=path.length/\Bits 2000 b/\Bits 64 j/\Q true (.tuple [.int (winB b path room j).1,dO (winB b path room j).2])
def ZK:Sp3:=fun ds Q E=>∃ (b:Int) (q:List (List Int)) (k:Nat) (room:Int×Int) (n:Nat),ds=[.tuple [.int b,.list (q.map dI)],.int k,jJ room]/\0<b/\Bits 2000 b/\k<n/\q.length<=61/\1<=q.length/\(∀ r∈q,r.length=n)/\(∀ r∈q,r.getD k 0+room.2<=80*b)/\0<=room.1/\0<=room.2/\room.2<=80*b/\∀ ws,IsW q.length k (winB b (zo q k) room) 1 ws->ws.length<=200->Q true (.list (ws.map dW))
def ZA:Sp3:=fun ds Q E=>∃ (b:Int) (q:List (List Int)) (rooms:List (Int×Int)) (n:Nat),ds=[.tuple [.int b,.list (q.map dI)],.list (rooms.map jJ)]/\0<b/\Bits 2000 b/\rooms.length=n/\n<=8/\q.length<=61/\1<=q.length/\(∀ r∈q,r.length=n)/\(∀ r∈q,∀ x∈r,x<=60*b)/\(∀ p∈rooms,0<=p.1/\0<=p.2/\p.2<=20*b)/\∀ W:List (List Win),W.length=n->(∀ k,k<n->IsW q.length k (winB b (zo q k) (rooms.getD k (0,0))) 1 (W.getD k []))->W.flatten.length<=2000->Q true (.list (W.flatten.map dW))
def Z2(c:Law.Cl):Sp3:=fun ds Q E=>∃ t T:Int,ds=[.int t,.int T]/\(1<=t/\t<=T->Q true .none)/\(¬(1<=t/\t<=T)->E c.NoRule)
def zai(c:Law.Cl):Sp3:=fun ds Q E=>∃ (rs:List Rule) (T n:Int),ds=[dRs rs,.int T,.int n]/\txtR rs/\(okRs T n rs->Q true .none)/\(¬okRs T n rs->E c.NoRule)
def Zn:SpC:=fun cs Q=>∃ (rs:List Rule) (n:Nat),cs=[.sh false (dRs rs),.sh true (.int n)]/\n<=8/\rs.length<=1000/\∀ ds,(ds.all fun p=>zt p.2)=true->j4 rs n ds->Q (.dt ds) []
def zat:SpC:=fun cs Q=>∃ (v:Win) (t:Int) (ds:List (List Key×D)),cs=[.sh false (dW v),.sh true (.int t),.fd ds]/\(ds.all fun p=>zt p.2)=true/\Q (.sh true (.bool (mayD ds v t))) []
def zar(c:Law.Cl):Sp3:=fun ds Q E=>∃ (b:Int) (q:List (List Int)) (V:List Win) (rs:List Rule) (n T:Nat),ds=[.tuple [.int b,.list (q.map dI)],.list (V.map dW),dRs rs]/\q.length=T+1/\T<=60/\(∀ r∈q,r.length=n)/\n<=8/\V.length<=2000/\(∀ v∈V,InR v.1 n)/\rs.length<=1000/\txtR rs/\(okRs T n rs->∀ ch:List (List Int),ch.length=T->(∀ row∈ch,row.length<=2000/\row.Nodup/\∀ x∈row,InR x V.length)->ChOk rs V ch->Q true (.list (ch.map dI)))/\(¬okRs T n rs->E c.NoRule)
def Zi(c:Law.Cl):Sp3:=fun ds Q E=>∃ (row:List Int) (T n:Nat),ds=[dI row,.int T,.int n]/\(z8 n T row->Q true .none)/\(¬z8 n T row->E c.NoRow)
def zaa:Sp3:=fun ds Q E=>∃ (V:List Win) (ch:List (List Int)),ds=[.list (V.map dW),.list (ch.map dI)]/\V.length<=2000/\ch.length<=60/\(∀ row∈ch,row.length<=2000/\∀ x∈row,InR x V.length)/\∀ tv:List (List Int),tv.length=V.length->(∀ row∈tv,∀ x∈row,InR x ch.length)->(∀ i,i<V.length->∀ j,j<ch.length->((j:Int)∈tv.getD i []↔(i:Int)∈ch.getD j []))->Q true (.list (tv.map dI))
def ZT:SpC:=fun cs Q=>∃ (x:Int) (a1 a2 a3:Addr) (ca t h:Tb) (r:Int->Nat) (start:Int) (A B m:Nat) (Ed:Int->Int->Prop),cs=[.sh true (.int x),.dm a1 ca,.dm a2 t,.dm a3 h]/\Way Ed ca t r start A B/\OnWay Ed ca t h t h r x A B m/\A<=2000/\B<=2000/\∀ t' h',Moved Ed t h t' h' start A B->Q (.sh true .none) [ca,t',h']
def Zk:SpC:=fun cs Q=>∃ (start:Int) (ch:List (List Int)) (a2 a3:Addr) (t h:Tb) (A B:Nat),cs=[.sh true (.int start),.sh false (.list (ch.map dI)),.dm a2 t,.dm a3 h]/\ch.length=A/\A<=2000/\B<=2000/\(A<=62\/B<=62)/\InR start A/\(∀ row∈ch,∀ x∈row,InR x B)/\Mat t h/\TbOk t A B/\TbOk h B A/\getM t start=none/\(∀ s c,getM t s=some c->c∈ch.getD s.toNat [])/\(∀ t' h',Moved (fun s c=>c∈ch.getD s.toNat []) t h t' h' start A B->Q (.sh true (.list [])) [t',h'])/\∀ rs:List Int,rs.Nodup->rs.Pairwise (·<=·)->rs.length<64->(∀ x∈rs,InR x A/\(x=start\/(getM t x).isSome=true))->start∈rs->(∃ C:List Int,C.length<rs.length/\∀ x∈rs,∀ c∈ch.getD x.toNat [],c∈C)->Q (.sh true (dI rs)) [t,h]
def Zp:Sp3:=fun ds Q E=>∃ (V:List Win) (ch:List (List Int)),ds=[.list (V.map dW),.list (ch.map dI)]/\V.length<=2000/\ch.length<=60/\(∀ row∈ch,row.length<=2000/\∀ x∈row,InR x V.length)/\∀ d,J8 V ch.length (fun k i=>(i:Int)∈ch.getD k []) d->Q true d
def zaq:Sp3:=fun ds Q E=>∃ a b:Rat2,ds=[dQ a,dQ b]/\okQ a/\okQ b/\Q true (.bool (decide (a.1*b.2<b.1*a.2)))
def Zj(c:Law.Cl):Sp3:=fun ds Q E=>∃ (l:List (Rat2×Rat2)) (n:Nat),ds=[dPs l,.int n]/\(∀ p∈l,okQ p.1/\okQ p.2)/\(okB n l->Q true .none)/\(¬okB n l->E c.NoBounds)
def Zz:Sp3:=fun ds Q E=>∃ (b:Int) (r:Rat2),ds=[.int b,dQ r]/\Bits 2000 b/\okQ r/\Q true (.int (jC b r))
def Zf(c:Law.Cl):Sp3:=fun ds Q E=>∃ (b:Int) (q:List (List Int)) (l:List (Rat2×Rat2)) (n:Nat),ds=[.tuple [.int b,.list (q.map dI)],dPs l]/\Bits 2000 b/\1<=q.length/\(∀ r∈q,r.length=n)/\n<=8/\l.length<=1000/\(∀ p∈l,okQ p.1/\okQ p.2)/\(okB n l->Q true (.list ((zB b l).map jJ)))/\(¬okB n l->E c.NoBounds)
def JX(c:Law.Cl):Sp3:=fun ds Q E=>∃ (l:List Spell) (bs:List (Rat2×Rat2)) (rs:List Rule) (row:List Int),ds=[dSs l,dPs bs,dRs rs,dI row]/\bs.length<=1000/\(∀ p∈bs,okQ p.1/\okQ p.2)/\rs.length<=1000/\txtR rs/\row.length<=1000/\(okS l->okB (many l) bs->okRs (tot l) (many l) rs->z8 (many l) (tot l).toNat row->∀ W:List (List Win),IsWs l bs W->∀ ch:List (List Int),ch.length=(tot l).toNat->(∀ pl∈ch,∀ x∈pl,InR x W.flatten.length)->ChOk rs W.flatten ch->∀ d,zcM W.flatten ch row d->Q true d)/\(¬okS l->E c.NoSpell)/\(okS l->¬okB (many l) bs->E c.NoBounds)/\(okS l->okB (many l) bs->¬okRs (tot l) (many l) rs->E c.NoRule)/\(okS l->okB (many l) bs->okRs (tot l) (many l) rs->¬z8 (many l) (tot l).toNat row->E c.NoRow)
def Zm:Sp3:=fun ds Q E=>∃ (b:Int) (q:List Int) (bs:List (Rat2×Rat2)) (c:List Int) (n:Nat),ds=[.int b,dI q,dPs bs,.tuple (c.map .int)]/\n<=8/\q.length=n/\c.length=n/\bs.length=n/\(∀ x∈q,Bits 1000 x)/\(∀ i,i<n->Bits 64 (c.getD i 0))/\Bits 900 b/\(∀ p∈bs,okQ p.1/\okQ p.2)/\∀ r:Bool,(r=true↔wiP b q bs c)->Q true (.bool r)
def ZJ:Sp3:=fun ds Q E=>∃ (rs:List Rule) (t c:Int),ds=[dRs rs,.int t,.int c]/\txtR rs/\(∀ r∈rs,r.1 = "fixed"\/r.1 = "barred")/\∀ b:Bool,(b=true↔¬jz rs t c)->Q true (.bool b)
def Zc:Sp3:=fun ds Q E=>∃ (l:List Spell) (bs:List (Rat2×Rat2)) (rs:List Rule) (row:List Int),ds=[.int (zi l),.list ((quoB (zi l) l).map dI),dPs bs,dRs rs,dI row]/\okS l/\many l<=3/\tot l<=6/\bs.length=many l/\(∀ p∈bs,okQ p.1/\okQ p.2)/\okRs (tot l) (many l) rs/\txtR rs/\z8 (many l) (tot l).toNat row/\∀ d,FewP (zd0 l bs rs) row d->Q true d
def Jt:Sp3:=fun ds Q E=>∃ ns,ds=[dI ns]/\ns.length<=63/\Q true (.bool true)
section
variable(c:Law.Cl)(P:Program)(w:World)(K:Ybf)(mg:Str->Option Value)(base:Heap)
abbrev dd_law_cell_at:=Df3 P w K mg base 1 "_law_cell_at" ["_law_script", "_law_k"] Z0
abbrev dd_law_mixed:=Df3 P w K mg base 1 "_law_mixed" ["_law_cell", "_law_k"] zaw
abbrev dd_law_wide:=Df3 P w K mg base 2 "_law_wide" ["_law_cell", "_law_k"] zax
abbrev dd_law_spells:=Df3 P w K mg base 3 "_law_spells" ["_law_script", "_law_most"] ZV
abbrev dd_law_quotas:=Df3 P w K mg base 1 "_law_quotas" ["_law_spells_here"] ZZ
abbrev dd_law_row:=Df3 P w K mg base 3 "_law_row" ["_law_bottom", "_law_rows", "_law_cell"] zac
abbrev dd_law_ratio:=Df3 P w K mg base 1 "_law_ratio" ["_law_top", "_law_bottom"] zad
abbrev dd_law_limits:=Df3 P w K mg base 3 "_law_limits" ["_law_bottom", "_law_rows", "_law_row_here", "_law_cell", "_law_own"] Z6
abbrev dd_law_rules:=Df3 P w K mg base 3 "_law_rules" ["_law_turns", "_law_clans", "_law_cell"] ZD
abbrev dd_check_weights:=Df3 P w K mg base 1 "check_weights" ["weights"] (zab c)
abbrev dd_all_turns:=Df3 P w K mg base 1 "all_turns" ["spells"] Z1
abbrev dd_check_spells:=Df3 P w K mg base 2 "check_spells" ["spells"] (Zb c)
abbrev dd_common_divisor:=Df3 P w K mg base 1 "common_divisor" ["one", "other"] zah
abbrev dd_divisor_of_all:=Df3 P w K mg base 2 "divisor_of_all" ["weights"] Zr
abbrev dd_least_bottom:=Df3 P w K mg base 3 "least_bottom" ["spells"] zay
abbrev dd_shares_over:=Df3 P w K mg base 1 "shares_over" ["bottom", "weights"] Z5
abbrev dd_quotas:=Df3 P w K mg base 4 "quotas" ["spells"] (zaD c)
abbrev dd_first_turn:=Df3 P w K mg base 1 "first_turn" ["path", "wanted"] Zo
abbrev dd_window_of:=Df3 P w K mg base 2 "window_of" ["bottom", "path", "j", "room"] Zv
abbrev dd_windows_of_clan:=Df3 P w K mg base 3 "windows_of_clan" ["told", "clan", "room"] ZK
abbrev dd_windows_within:=Df3 P w K mg base 4 "windows_within" ["told", "rooms"] ZA
abbrev dd_check_turn:=Df3 P w K mg base 1 "check_turn" ["turn", "turns"] (Z2 c)
abbrev dd_check_rules:=Df3 P w K mg base 2 "check_rules" ["rules", "turns", "clans"] (zai c)
abbrev dd_forbidden:=DfC P w K mg base 1 "forbidden" ["rules", "clans"] Zn
abbrev dd_may_come:=DfC P w K mg base 1 "may_come" ["visit", "turn", "barred"] zat
abbrev dd_choices_of_turns:=Df3 P w K mg base 3 "choices_of_turns" ["told", "visits", "rules"] (zar c)
abbrev dd_check_row:=Df3 P w K mg base 1 "check_row" ["row", "turns", "clans"] (Zi c)
abbrev dd_choices_of_visits:=Df3 P w K mg base 1 "choices_of_visits" ["visits", "choices"] zaa
abbrev dd_move_along:=DfC P w K mg base 1 "move_along" ["choice", "came", "taken", "holders"] ZT
abbrev dd_settle:=DfC P w K mg base 2 "settle" ["start", "choices", "taken", "holders"] Zk
abbrev dd_place_visits:=Df3 P w K mg base 3 "place_visits" ["visits", "choices"] Zp
abbrev dd_mend_visits:=DfU c.tb P w K mg base 6 "mend_visits" ["visits", "choices", "row"] JP
abbrev dd_less:=Df3 P w K mg base 1 "less" ["one", "other"] zaq
abbrev dd_check_bounds:=Df3 P w K mg base 2 "check_bounds" ["bounds", "clans"] (Zj c)
abbrev dd_room_at_most:=Df3 P w K mg base 1 "room_at_most" ["bottom", "bound"] Zz
abbrev dd_rooms_of:=Df3 P w K mg base 3 "rooms_of" ["told", "bounds"] (Zf c)
abbrev dd_mended:=DfU c.tb P w K mg base 7 "mended" ["spells", "bounds", "rules", "row"] (JX c)
abbrev dd_law_within:=Df3 P w K mg base 1 "_law_within" ["_law_bottom", "_law_share", "_law_bounds", "_law_had"] Zm
abbrev dd_law_lets:=Df3 P w K mg base 1 "_law_lets" ["_law_rules_here", "_law_t", "_law_clan"] ZJ
abbrev dd_law_fewest:=Df3 P w K mg base 2 "_law_fewest" ["_law_bottom", "_law_rows", "_law_bounds", "_law_rules_here", "_law_row_here"] Zc
end
set_option bootstrap.genMatcherCode true
local macro_rules | `(tactic| walk_at $w:str)=>do
 let ws:=w.getString.splitOn " "
 if ws.head? == some "o" then return (<-`(tactic| first|exact Uq rfl|exact Wv rfl|exact Wv (Uq rfl)|exact Wv (Wv rfl)))
 unless ws.head? == some "rd" do Lean.Macro.throwUnsupported
 let ds <-("seq3,next3,set3,own3,ret3,ifS3,tt3,o3,u3,v3,atV,asS,asB,asD,optP,asT,asLd,asL,atO,J3,nilP,asId,asI,k3,nw3,add3,int3,int0,neg3,eq3,ne3,eqOk,eqv3,isN3,notN3,isNone,ix3,ixD,ZO,nil3,Za,cb3,len3,lenD,abs3,max23,min23,sum3,max3,and3,or3,not3,ch3,tup3,lst3,zam,slL3,no3,zaj,ZQ,asg3,gn3,Zl,ZE,gnil3,app3,put3,frzS,frz,frz1,for3,itL,itT,itZ,rg1,rg2,Jo,true3,cst3,Zy,jR,shs,Cl.d,Cl.dat,Cl.f,za6,zt,XT,X4,XG,XQ,XY,XZ,XH,YJ,Wbi,Wbh,Wbv,Ya1,Wbx,Xq,Xz,Ym,Yn,Xb,Xf,Xc,XC,Xx,Xg,Xh,Wbj,Wbc,par3,aug3,idx3,ext3,itE,k3f,zaf,put2,app2,ix2,zav,ZY,slT3,intB3,frzD,itD,ZX,zau,ZI,ZC,zap,ZG,dms,jm,argC,JI,Jd,finM,holds,updM,JL,Zg,Zx,ZU,Zt,ZB,ZS,zaC,Zh,ZL,zaA,srtL,ninT3,Zs,Xo,XJ,Zw,Z0,zaw,zax,ZV,ZZ,zac,zad,Z6,ZD,zab,Z1,Zb,zah,Zr,zay,Z5,zaD,Zo,Zv,ZK,ZA,Z2,zai,Zn,zat,zar,Zi,zaa,ZT,Zk,Zp,zaq,Zj,Zz,Zf,JX,Zm,ZJ,Zc,Jt,dSs,dS,dI,zt,dQ,dP,dPs,jJ,dW,dRs,dRl,JP,lE,fE,hE37".splitOn ",").toArray.mapM fun s=>`(Lean.Parser.Tactic.simpLemma| $(Lean.mkIdent s.toName):term)
 let rs <-(("Wbk,Wbf,Wbl,Wbw,Wbs,Yao,WaR,Cl.sh.injEq,Cl.ow.injEq,Wa1,WaS,Wa2,WaT,WaH,Wa8,reduceCtorEq,and_assoc,and_true,true_and,and_self,exists_eq_left,exists_eq_left',exists_eq',exists_eq_right,exists_eq_right',exists_and_left,exists_const,exists_false,false_and,and_false,or_false,false_or,or_true,true_or,decide_true,decide_false,decide_eq_true_eq,WaF,WaI,if_true,if_false,ite_true,ite_false,WaJ,decide_eq_false_iff_not,eq_self_iff_true,not_true_eq_false,not_false_eq_true,sz0,sz1,sz2,sz3,sz4,Cl.tr.injEq,Cl.dt.injEq,Cl.fd.injEq,Cl.dm.injEq,atI0,atI1,atI2,atI3".splitOn ",")++ws.tail).toArray.mapM fun s=>`(Lean.Parser.Tactic.simpLemma| $(Lean.mkIdent s.toName):term)
 let ls:=ds++rs
 `(tactic| ((try dsimp only [$ds:simpLemma,*]);try simp (config:={ maxSteps:=2000000 }) only [$ls:simpLemma,*]))
set_option bootstrap.genMatcherCode false
theorem zgQ(T:Txt c K mg):dd_law_cell_at P w K mg base:=by
 obtain⟨f,fd,F,hm⟩:=T.d_law_cell_at;have S:FnScope ["_law_script", "_law_k"] ["_law_script", "_law_k"] (zg (top 57)):=⟨rfl,rfl,rfl,#[3],rfl,#[3],#[3]⟩
 refine⟨fun ds Q Q' E E' hQ hE h=>?_,⟨f,fd,fn3 F S (fun ds Q E h=>?_) (fun cdv A outer s H E E3 hE hr=>?_),F.binds fun _ _ _ _ _ _ us hl=>by obtain⟨_,_,rfl⟩:=zaW hl;rfl,F.kp,hm⟩⟩
 . revert h;repeat' (first|exact fun h=>h|exact hQ _ _|exact hE _|refine Xl fun _=>?_|refine Xr ?_ ?_|refine forall_imp fun _=>?_)
 . obtain⟨_,_,rfl,_⟩:=h;rfl
 refine⟨_,(zd (s_if (zr Jh (n3 1) (zq zH rfl T.n_len zC (za (n3 0) zb)) (nomark _)) (ze (zu (op3 zS (at3 (n3 0) (n3 1) (fun _ _=>rfl)) (op3 Jy i3 i3)))) zw)
  (ze (zu i3))),fun i Q h=>?_⟩
 obtain⟨a,k,rfl,hk,q⟩:=h
 walk_at "rd"
 rw [YaR]
 by_cases h:k<a.length
 . rw [if_pos h]
   obtain⟨x,e,_⟩:=zbt (xs:=a) hk h;refine⟨.int x,by rw [Z9,e];rfl,c64,?_⟩
   exact⟨#[1],q _⟩
 . rw [if_neg h]
   exact q _
theorem zkX(T:Txt c K mg):dd_law_mixed P w K mg base:=by
 obtain⟨f,fd,F,hm⟩:=T.d_law_mixed;have S:FnScope ["_law_cell", "_law_k", "_law_one"] ["_law_cell", "_law_k"] (zg (top 58)):=⟨rfl,rfl,rfl,#[3],rfl,#[3],#[3]⟩
 refine⟨fun ds Q Q' E E' hQ hE h=>?_,⟨f,fd,fn3 F S (fun ds Q E h=>?_) (fun cdv A outer s H E E3 hE hr=>?_),F.binds fun _ _ _ _ _ _ us hl=>by obtain⟨_,_,rfl⟩:=zaW hl;rfl,F.kp,hm⟩⟩
 . revert h;repeat' (first|exact fun h=>h|exact hQ _ _|exact hE _|refine Xl fun _=>?_|refine Xr ?_ ?_|refine forall_imp fun _=>?_)
 . obtain⟨_,_,rfl,_⟩:=h;rfl
 refine⟨_,(zd ((zk (i:=2) S.nd rfl #[2]) (op3 zS (op3 zX (op3 zU (op3 zS (n3 0) (op3 Jy i3 i3)) (op3 zX i3 (op3 zU (n3 1) i3))) i3) (op3 Jy i3 i3)))
  (ze (zu (op3 zS (op3 zK (op3 zX (n3 2) (n3 2)) (op3 Jy i3 i3)) (op3 Jy i3 i3))))),fun v Q h=>?_⟩
 obtain⟨e,k,rfl,A,u,q⟩:=h
 walk_at "rd"
 have cp:∀ n:Int,0<=n->n<=100->JU 10 n:=fun n h r=>powB (k:=4) (by unfold Bits;decide) h #[0]
 have g:Bits 64 (k+1):=by unfold Bits;omega
 have l:Bits 128 (e%10 ^ XX 18):=(Bits.emod (Bits.lit 64) #[1] _).mono #[1]
 have p:=(Bits.lit (x:=1442695040888963407) 64).mul g;have b3:=l.add p;generalize e%10 ^ XX 18+1442695040888963407*(k+1)=y at b3 ⊢;have b:Bits 130 (y*6364136223846793005%10 ^ XX 37):=Bits.emod (by unfold Bits;decide) #[1] _
 generalize y*6364136223846793005%10 ^ XX 37=z at b ⊢;exact⟨cp 18 #[1] #[1],#[1],(Bits.lit (x:=1442695040888963407) 64).mulOk g #[1],b3.mulOk (Bits.lit 64) #[1],cp 37 #[1] #[1],#[1],b.mulOk b #[1],cp 17 #[1] #[1],divP,cp 56 #[1] #[1],#[1],q _⟩
theorem zbK(T:Txt c K mg):dd_law_wide P w K mg base:=by
 have znZ:dd_law_mixed P w K mg base:=zkX T;obtain⟨f,fd,F,hm⟩:=T.d_law_wide;have S:FnScope ["_law_cell", "_law_k"] ["_law_cell", "_law_k"] (zg (top 59)):=⟨rfl,rfl,rfl,#[3],rfl,#[3],#[3]⟩
 refine⟨fun ds Q Q' E E' hQ hE h=>?_,⟨f,fd,fn3 F S (fun ds Q E h=>?_) (fun cdv A outer s H E E3 hE hr=>?_),F.binds fun _ _ _ _ _ _ us hl=>by obtain⟨_,_,rfl⟩:=zaW hl;rfl,F.kp,hm⟩⟩
 . revert h;repeat' (first|exact fun h=>h|exact hQ _ _|exact hE _|refine Xl fun _=>?_|refine Xr ?_ ?_|refine forall_imp fun _=>?_)
 . obtain⟨_,_,rfl,_⟩:=h;rfl
 refine⟨_,(zd (s_if (zr Jh (n3 0) (op3 Jy i3 i3) (nomark _)) (ze (zu (df3 hE znZ (hr.mono #[1]) rfl zp (za (n3 0) (za (n3 1) zb))))) zw)
  (ze (zu (n3 0)))),fun j Q h=>?_⟩
 obtain⟨g,k,rfl,b,h1,q⟩:=h
 walk_at "rd"
 refine⟨powB (k:=4) (by unfold Bits;decide) #[1] #[1],ite2 (fun _=>⟨b,h1,q⟩) fun _=>q _⟩
theorem zld(T:Txt c K mg):dd_law_spells P w K mg base:=by
 have b:dd_law_cell_at P w K mg base:=zgQ T;have C:dd_law_wide P w K mg base:=zbK T;obtain⟨f,fd,F,hm⟩:=T.d_law_spells;have S:FnScope ["_law_script", "_law_most", "_law_first", "_law_clans", "_law_count", "_law_spells_here", "_law_k", "_law_cell", "_law_length", "_law_size", "_law_weights", "_law_i"] ["_law_script", "_law_most"] (zg (top 60)):=⟨rfl,rfl,rfl,#[3],rfl,#[3],#[3]⟩
 refine⟨fun ds Q Q' E E' hQ hE h=>?_,⟨f,fd,fn3 F S (fun ds Q E h=>?_) (fun cdv A outer s H E E3 hE hr=>?_),F.binds fun _ _ _ _ _ _ us hl=>by obtain⟨_,_,rfl⟩:=zaW hl;rfl,F.kp,hm⟩⟩
 . revert h;repeat' (first|exact fun h=>h|exact hQ _ _|exact hE _|refine Xl fun _=>?_|refine Xr ?_ ?_|refine forall_imp fun _=>?_)
 . obtain⟨_,_,rfl,_⟩:=h;rfl
 refine⟨_,(zd ((zk (i:=2) S.nd rfl #[2]) (df3 hE b (hr.mono #[1]) rfl zp (za (n3 0) (za i3 zb))))
  (zd ((zk (i:=3) S.nd rfl #[2]) (op3 zU i3 (op3 zS (n3 2) i3)))
  (zd ((zk (i:=4) S.nd rfl #[2]) (op3 zU i3 (op3 zS (op3 zK (n3 2) i3) i3)))
  (zd ((jq (i:=5) S.nd rfl #[2]) (jg zb))
  (zd (zy WaP rfl (jh rfl T.n_range (za (n3 4) zb)) (zl (i:=6) S.nd rfl #[2]) (zd ((zk (i:=7) S.nd rfl #[2]) (df3 hE C (hr.mono #[1]) rfl zp (za (df3 hE b (hr.mono #[1]) rfl zp (za (n3 0) (za (op3 zU i3 (n3 6)) zb))) (za (op3 zU (op3 zS (n3 2) i3) (op3 zX i3 (n3 6))) zb))))
   (zd ((zk (i:=8) S.nd rfl #[2]) (op3 zU i3 (op3 zS (n3 7) (op3 zK (n3 1) (n3 4)))))
   (zd ((zk (i:=7) S.nd rfl #[2]) (op3 zK (n3 7) (op3 zK (n3 1) (n3 4))))
   (zd ((zk (i:=9) S.nd rfl #[2]) (at3 (new3 (jg (za i3 (za i3 (za i3 (za (op3 Jy i3 i3) zb)))))) (op3 zS (n3 7) i3) (fun _ _=>rfl)))
   (zd ((zk (i:=7) S.nd rfl #[2]) (op3 zK (n3 7) i3))
   (zd ((jq (i:=10) S.nd rfl #[2]) (jg zb))
   (zd (zy WaP rfl (jh rfl T.n_range (za (n3 3) zb)) (zl (i:=11) S.nd rfl #[2]) (zd (jF (i:=10) rfl #[2] (op3 zS (n3 7) (n3 9)))
    (ze ((zk (i:=7) S.nd rfl #[2]) (op3 zK (n3 7) (n3 9))))))
   (zd (s_if (zr (jn hr.units) (zq (JA rfl) rfl T.n_sum Jw (za (n3 10) zb)) i3 (nomark _)) (ze (zaX (i:=10) rfl #[2] (op3 zS (n3 7) (n3 3)) i3)) zw)
   (ze (jA [10] (jF (i:=5) rfl #[2] (zZ (za (n3 8) (za (n3 10) zb)))))))))))))))
  (ze (jA [5] (zu (n3 5))))))))),fun ds Q h=>?_⟩
 obtain⟨Y,m,rfl,h4,a5,q⟩:=h;refine zj fun N e=>?_
 walk_at "rd"
 refine⟨Y,rfl,#[1],fun v=>e _ ?_⟩
 clear e N;obtain⟨n,hn⟩:∃ n:Nat,1+v%8=(n:Int):=⟨(1+v%8).toNat,#[0]⟩
 obtain⟨H,a0⟩:∃ n:Nat,1+v/8%4=(n:Int):=⟨(1+v/8%4).toNat,#[0]⟩
 have ac:1<=n/\n<=8:=#[0]
 have ab:1<=H/\H<=4:=#[0]
 refine zj fun N e=>?_
 walk_at "rd hn"
 refine⟨#[1],e _ ?_⟩
 clear e N;refine zj fun N e=>?_
 walk_at "rd a0"
 refine⟨divP,#[1],e _ ?_⟩
 clear e N;refine zj fun N e=>?_
 walk_at "rd"
 refine e _ ?_
 clear e N hn a0;have a3:(H:Int)*(m/H)<=m:=Int.mul_ediv_self_le #[0]
 have a4:1<=m/(H:Int):=Int.le_ediv_of_mul_le #[0] #[0]
 have U:m/(H:Int)<=60:=Wbq (Y8 _ #[0]) a5
 have a1:jY m (H:Int):=⟨#[0],Bits.lit (x:=(H:Int)) 9000 #[0]⟩
 generalize hp:m/(H:Int)=u at a3 a4 U;have c6:JU 10 6:=powB (k:=4) (by unfold Bits;decide) #[1] #[1]
 walk_at "rd"
 refine⟨#[0],#[0],?_⟩
 rw [Xi];refine ja (fun k ρ=>∃ (l:List Spell) (t1 t2 t3 t4 t5 t6:Option L3.Cl),ρ = [some (.sh false (.list (Y.map .int))),some (.sh true (.int m)),some (.sh true (.int v)),some (.sh true (.int n)),some (.sh true (.int H)),some (.ow true (l.map dS)),t1,t2,t3,t4,t5,t6]/\l.length=k/\∀ s∈l,1<=s.1/\s.1<=u/\okW s.2/\s.2.length=n/\∀ w∈s.2,w<10 ^ 6) ?_ ?_ ⟨[],none,none,none,none,none,none,rfl,rfl,fun s h=>by cases h⟩
 . rintro k ρ hk ⟨l,t1,t2,t3,t4,t5,t6,rfl,hl,O⟩ W hW
   ((try dsimp only [lE,fE,gn3,Xf,Xc,Xg,Xh,zt,Wbh,Wbv]);try simp only [lE,fE,gn3,Xf,Xc,Xg,Xh,zt,Wbw])
   refine zj fun N e=>?_
   walk_at "rd"
   refine⟨Y,rfl,#[0],fun v1=>⟨#[1],(Bits.lit (x:=64) 64).mulOk (Bits.lit (x:=0+(k:Int)) 64 #[0]) #[1],#[0],#[0],fun Z=>e _ ?_⟩⟩
   clear e N;refine zj fun N e=>?_
   walk_at "rd hp"
   refine⟨a1,#[0],e _ ?_⟩
   clear e N;refine zj fun N e=>?_
   walk_at "rd hp"
   refine⟨a1,⟨#[0],Bits.lit (x:=u) 9000 #[0]⟩,e _ ?_⟩
   clear e N;obtain⟨d,hd,hm,_⟩:=zbt (xs:=[Xa 3,Xa 11,Xa 2,Xa (10 ^ XX 6)]) (i:=Z/u%4) #[0] (by show Z/u%4<4;omega)
   obtain⟨E,rfl,aa,a9⟩:∃ z,d=Xa z/\2<=z/\z<=10 ^ 6:=by
    simp only [Wbe,Wa0,or_false] at hm
    rcases hm with rfl|rfl|rfl|rfl<;>exact⟨_,rfl,#[1],#[1]⟩
   refine zj fun N e=>?_
   walk_at "rd"
   refine⟨c6,#[1],_,hd,e _ ?_⟩
   clear e N hd hm;refine zj fun N e=>?_
   walk_at "rd"
   refine⟨divP,e _ ?_⟩
   clear e N;refine zj fun N e=>?_
   walk_at "rd"
   refine e _ ?_
   clear e N;have a7:Bits 9000 E:=Bits.lit (x:=E) 9000 #[0]
   have M:=Ybc Z (show u≠0 by omega)
   have X:=Ybd Z (show 0<u by omega)
   generalize Z/u/4=c0;generalize a6:1+Z%u=I;have a2:1<=I/\I<=u:=#[0]
   clear a6 M X;refine z5 (fun ρ=>∃ (p:List Int) (G:Int) (t:Option L3.Cl),ρ = [some (.sh false (.list (Y.map .int))),some (.sh true (.int m)),some (.sh true (.int v)),some (.sh true (.int n)),some (.sh true (.int H)),some (.ow true (l.map dS)),some (.sh true (.int (0+k))),some (.sh true (.int G)),some (.sh true (.int I)),some (.sh true (.int E)),some (.ow true (p.map .int)),t]/\p.length=n/\∀ w∈p,0<=w/\w<10 ^ 6) (fun N e=>?_) ?_
   . walk_at "rd"
     refine⟨#[0],#[0],?_⟩
     rw [Xi];refine ja (fun j ρ=>∃ (p:List Int) (G:Int) (t:Option L3.Cl),ρ = [some (.sh false (.list (Y.map .int))),some (.sh true (.int m)),some (.sh true (.int v)),some (.sh true (.int n)),some (.sh true (.int H)),some (.ow true (l.map dS)),some (.sh true (.int (0+k))),some (.sh true (.int G)),some (.sh true (.int I)),some (.sh true (.int E)),some (.ow true (p.map .int)),t]/\p.length=j/\∀ w∈p,0<=w/\w<10 ^ 6) ?_ ?_ ⟨[],_,t6,rfl,rfl,fun _ h=>by cases h⟩
     . rintro j ρ hj ⟨p,G,t,rfl,A,L⟩ W' a8
       walk_at "rd"
       rw [YaR];refine⟨#[0],YaU (show _<1000000 by omega) #[1],⟨#[0],a7⟩,a8 _ ⟨p++[G%E],_,_,by rw [Ya2];rfl,by simp [A],fun w J=>?_⟩⟩
       rcases Ya3.mp J with z|z
       . exact L w z
       . rw [Ya6.mp z]
         have:=Ybc G (show E≠0 by omega)
         have:=Ybd G (show 0<E by omega)
         exact⟨#[0],#[0]⟩
     . rintro ρ ⟨p,G,t,rfl,A,L⟩
       exact e _ ⟨p,G,t,rfl,A,L⟩
   rintro ρ ⟨p,G,t,rfl,A,L⟩
   refine z5 (fun ρ=>∃ p:List Int,ρ = [some (.sh false (.list (Y.map .int))),some (.sh true (.int m)),some (.sh true (.int v)),some (.sh true (.int n)),some (.sh true (.int H)),some (.ow true (l.map dS)),some (.sh true (.int (0+k))),some (.sh true (.int G)),some (.sh true (.int I)),some (.sh true (.int E)),some (.ow true (p.map .int)),t]/\p.length=n/\(∀ w∈p,0<=w/\w<10 ^ 6)/\p.sum≠0) (fun N e=>?_) ?_
   . walk_at "rd"
     have m0:=Ybc G (show(n:Int)≠0 by omega)
     have m1:=Ybd G (show 0<(n:Int) by omega)
     refine⟨p,jX _,ite2 (fun hz=>⟨#[0],_,JJ m0 (by rw [YaR];omega),e _ ⟨p.set (G%n).toNat 1,by rw [Wbu],by rw [YaN];exact A,?_,?_⟩⟩) fun hz=>e _ ⟨p,rfl,A,L,hz⟩⟩
     . intro w h
       rcases Wag h with z|z
       . exact L w z
       . subst z;exact⟨#[1],#[1]⟩
     . refine zjT (fun w h=>?_) (List.mem_set #[0] 1)
       rcases Wag h with z|z
       . exact(L w z).1
       . subst z;decide
   clear A L p
   rintro ρ ⟨p,rfl,A,L,h0⟩
   have e6:(10:Int) ^ 6<=10 ^ 30:=#[1]
   walk_at "rd"
   refine⟨YaU (show _<1000000 by rw [YaR];omega) #[1],hW _ ⟨l++[(I,p)],_,_,_,_,_,_,by rw [Ya2];rfl,by simp [hl],fun s y=>?_⟩⟩
   rcases Ya3.mp y with z|z
   . exact O s z
   . rw [Ya6.mp z]
     exact⟨a2.1,a2.2,⟨by show 1<=p.length/\p.length<=8;omega,fun w J=>⟨(L w J).1,by have:=(L w J).2;omega⟩,h0⟩,A,fun w J=>(L w J).2⟩
 . rintro ρ ⟨l,t1,t2,t3,t4,t5,t6,rfl,hl,O⟩
   walk_at "rd"
   have R:∀ s∈l,s.2.length=many l:=fun s y=>by
    cases l with
    | nil=>cases y
    | cons a r=>exact(O s y).2.2.2.1.trans (O a YaV).2.2.2.1.symm
   have:=zm4 (l:=l) (B:=u) fun s y=>(O s y).2.1
   have h2:(l.length:Int)*u<=H*u:=by rw [hl];exact Wbz _
   exact q l ⟨#[0],fun s y=>⟨(O s y).1,(O s y).2.2.1,R s y⟩,#[0]⟩ #[0]
theorem ziI(T:Txt c K mg):dd_law_quotas P w K mg base:=by
 obtain⟨f,fd,F,hm⟩:=T.d_law_quotas;have S:FnScope ["_law_spells_here", "_law_bottom", "_law_length", "_law_weights", "_law_rows", "_law_turn", "_law_row_here", "_law_k", "_law_share"] ["_law_spells_here"] (zg (top 61)):=⟨rfl,rfl,rfl,#[3],rfl,#[3],#[3]⟩
 refine⟨fun ds Q Q' E E' hQ hE h=>?_,⟨f,fd,fn3 F S (fun ds Q E h=>?_) (fun cdv A outer s H E E3 hE hr=>?_),F.binds fun _ _ _ _ _ _ us hl=>by obtain⟨_,rfl⟩:=ziJ hl;rfl,F.kp,hm⟩⟩
 . revert h;repeat' (first|exact fun h=>h|exact hQ _ _|exact hE _|refine Xl fun _=>?_|refine Xr ?_ ?_|refine forall_imp fun _=>?_)
 . obtain⟨_,rfl,_⟩:=h;rfl
 refine⟨_,(zd ((zk (i:=1) S.nd rfl #[2]) i3)
  (zd (zy WaP rfl (zW (n3 0)) (jk (n:=2) rfl (zA (zl (i:=2) S.nd rfl #[2]) (zA (zl (i:=3) S.nd rfl #[2]) jj))) (ze ((zk (i:=1) S.nd rfl #[2]) (op3 zX (n3 1) (zq (JA rfl) rfl T.n_sum Jw (za (n3 3) zb))))))
  (zd ((jq (i:=4) S.nd rfl #[2]) (jg (za (new3 (jP ["_law_weight"] [] [] rfl (z0 (osc:=zg (top 61)) #[3]) rfl (zW (at3 (at3 (n3 0) i3 (fun _ _=>rfl)) i3 (fun _ _=>rfl))) (fun H0 s H fp cl=>⟨(zl (i:=0) (show((["_law_weight"]:List Xk)++([]:List Xk)).Nodup by decide) rfl #[2]),jD,i3⟩))) zb)))
  (zd (zy WaP rfl (zW (n3 0)) (jk (n:=2) rfl (zA (zl (i:=2) S.nd rfl #[2]) (zA (zl (i:=3) S.nd rfl #[2]) jj))) (ze (zy WaP rfl (jh rfl T.n_range (za (n3 2) zb)) (zl (i:=5) S.nd rfl #[2]) (zd ((jq (i:=6) S.nd rfl #[2]) (jg zb))
   (zd (zy WaP rfl (jh rfl T.n_range (za (zq zH rfl T.n_len zC (za (n3 3) zb)) zb)) (zl (i:=7) S.nd rfl #[2]) (zd ((zk (i:=8) S.nd rfl #[2]) (op3 zX (at3 (n3 3) (n3 7) (fun _ _=>rfl)) (op3 zK (n3 1) (zq (JA rfl) rfl T.n_sum Jw (za (n3 3) zb)))))
    (ze (jF (i:=6) rfl #[2] (op3 zU (at3 (at3 (n3 4) (un3 zjx i3) (fun _ _=>rfl)) (n3 7) (fun _ _=>rfl)) (n3 8))))))
   (ze (jA [6] (jF (i:=4) rfl #[2] (n3 6)))))))))
  (ze (jA [4] (zu (zZ (za (n3 1) (za (n3 4) zb)))))))))),fun ds Q h=>?_⟩
 obtain⟨l,rfl,y,q⟩:=h;have hm:=zcb y;have hB:=zcg y;have a5:=zbu y;have ad:l≠[]:=fun z=>by have:=y.1.1;rw [z] at this;simp at this
 have ah:atI (l.map dS) 0=some (dS (l.headD (0,[]))):=by
  cases l with
  | nil=>exact absurd rfl ad
  | cons a r=>exact atI0
 walk_at "rd"
 refine jx dS l (fun b ρ=>∃ t u,ρ = [some (.sh false (.list (l.map dS))),some (.sh true (.int (zi b))),t,u,none,none,none,none,none]) ?_ ?_ ⟨none,none,rfl⟩
 . rintro b s J ρ hd ⟨t,u,rfl⟩ W hW
   have M:s∈l:=by rw [hd];simp
   have A:=(y.2.1 s M).2.1;have a9:=zbC b 1 1 (fun t ht=>(y.2.1 t (by rw [hd];exact Yai _ ht)).2.1) #[1] (by unfold Bits;decide)
   have am:b.length<=8:=by have:=y.1.2;rw [hd,YaS] at this;lia
   walk_at "rd"
   refine⟨s.2,jX _,(a9.2.mono (k:=900) #[94]).mulOk (ZH A) #[1],?_⟩
   rw [<-zmX];exact hW _ ⟨_,_,rfl⟩
 rintro ρ ⟨t,u,rfl⟩
 walk_at "rd ah atI1 YaR"
 refine⟨sz (by have:=hm.2;unfold many at this;lia),?_⟩
 refine jt Xa (fun _=>.int 0) (fun ρ=>∃ t,ρ = [t]) (l.headD (0,[])).2 ?_ _ _ _ _ ⟨none,rfl⟩ ?_
 . rintro w hw ρ fa ak K ⟨t,rfl⟩ k
   walk_at "rd"
   exact k _ ⟨_,rfl⟩
 have hz:(l.headD (0,[])).2.map (fun _=>Xa 0)=(zeros l).map .int:=by
  unfold zeros many;rw [Yaz,Wa9]
 rw [Xc,hz];have ac:JC (many l) (zeros l,[zeros l]):=⟨by unfold zeros;simp,fun r hr=>by rw [Ya6.mp hr];unfold zeros;simp⟩
 refine jx dS l (fun b ρ=>∃ t1 t2 t3 t4 Z Y r,ρ = [some (.sh false (.list (l.map dS))),some (.sh true (.int (zi l))),t1,t2,some (.ow true ((runQ (zi l) b (zeros l,[zeros l])).2.map dI)),t3,t4,Z,Y]/\JC (many l) (runQ (zi l) b (zeros l,[zeros l]))/\(runQ (zi l) b (zeros l,[zeros l])).2=r++[(runQ (zi l) b (zeros l,[zeros l])).1]/\((runQ (zi l) b (zeros l,[zeros l])).2.length:Int)=1+tot b) ?_ ?_ ⟨_,_,none,none,none,none,[],rfl,ac,rfl,rfl⟩
 . rintro b s J ρ hd ⟨t1,t2,t3,t4,Z,Y,r,rfl,U,C,N⟩ W hW
   have M:s∈l:=by rw [hd];simp
   obtain⟨al,A,ab⟩:=y.2.1 s M;have X:s.2.length=many l:=ab;have aa:∀ s∈l,1<=s.1:=fun s M=>(y.2.1 s M).1
   have ai:tot b+s.1<=60:=by
    have aj:=y.2.2;have e:tot l=tot b+(s.1+tot J):=by unfold tot;rw [hd,Ya2,Wa7,Ya1,XA]
    have:0<=tot J:=jM fun s M=>aa s (by rw [hd];exact Yaa _ (YaT _ M))
    lia
   have af:s.2.sum∣zi l:=zfB M;have a3:=jK A;generalize hp:runQ (zi l) b (zeros l,[zeros l])=p at U C N;have er:runQ (zi l) (b++[s]) (zeros l,[zeros l])=rep (zE (shares (zi l) s.2)) s.1.toNat p:=by
    unfold runQ at hp ⊢;rw [WaN,hp];rfl
   have et:tot (b++[s])=tot b+s.1:=by unfold tot;rw [Ya2,Wa7];simp
   rw [er,et] at hW;have a2:∀ i (O:i<s.2.length),s.2[i]*(zi l/s.2.sum)=(shares (zi l) s.2).getD i 0:=fun i O=>by
    unfold shares;rw [YaP,Ya0,YaQ O];show _=s.2[i]*zi l/s.2.sum;rw [YG _ af]
   have I:(shares (zi l) s.2).length=many l:=by rw [zdr];exact X
   generalize shares (zi l) s.2=E at hW a2 I er
   walk_at "rd"
   refine⟨#[94],#[94],?_⟩
   refine ja (fun j ρ=>∃ t3 t4 Z Y r,ρ = [some (.sh false (.list (l.map dS))),some (.sh true (.int (zi l))),some (.sh true (.int s.1)),some (.sh false (.list (s.2.map .int))),some (.ow true ((rep (zE E) j p).2.map dI)),t3,t4,Z,Y]/\JC (many l) (rep (zE E) j p)/\(rep (zE E) j p).2=r++[(rep (zE E) j p).1]/\((rep (zE E) j p).2.length:Int)=1+tot b+j) ?_ ?_ ⟨_,_,_,_,r,rfl,U,C,by show(p.2.length:Int)=_;lia⟩
   . rintro j ρ hj ⟨y3,y4,y5,y6,r,rfl,v,g,L⟩ W' a0
     rw [zeH] at a0;generalize rep (zE E) j p=B at v g L a0;have G:(addL B.1 E).length=many l:=by rw [zb6 (by rw [v.1,I]),v.1]
     have a7:atI (B.2.map dI) (-1)=some (XB (B.1.map Xa)):=by
      rw [g,Ya2,Ya1,Wbx,zg6];rfl
     walk_at "rd"
     rw [YaR,X];refine⟨#[94],#[94],?_⟩
     rw [Xi];refine ja (fun i ρ=>∃ Z Y,ρ = [some (.sh false (.list (l.map dS))),some (.sh true (.int (zi l))),some (.sh true (.int s.1)),some (.sh false (.list (s.2.map .int))),some (.ow true (B.2.map dI)),some (.sh true (.int (0+j))),some (.ow true (((addL B.1 E).take i).map .int)),Z,Y]) ?_ ?_ ⟨_,_,rfl⟩
     . rintro i ρ O ⟨v5,v6,rfl⟩ W2 a1
       have R:i<s.2.length:=by rw [X];exact O
       have ae:i<B.1.length:=by rw [v.1];exact O
       have a4:i<E.length:=by rw [I];exact O
       have hw:atI (s.2.map Xa) (0+(i:Int))=some (Xa s.2[i]):=zb4 R;have hq:atI (B.1.map Xa) (0+(i:Int))=some (Xa B.1[i]):=zb4 ae;have a8:(addL B.1 E).take (i+1)=(addL B.1 E).take i++[B.1[i]+E.getD i 0]:=by
        rw [X6 (by rw [G];exact O)]
        congr 2
        unfold addL
        simp [a4]
       rw [a8,Ya2] at a1;have a6:Bits 900 (zi l/s.2.sum):=a5.le (Yay _ _)
       walk_at "rd hw a7 hq"
       refine⟨s.2,jX _,⟨a3,(ZH A).mono #[1]⟩,(zgF A (Ya4 R)).mulOk a6 #[1],YaU (show _<1000000 by rw [YaR,WaW];lia) #[1],?_⟩
       rw [a2 i R];exact a1 _ ⟨_,_,rfl⟩
     . rintro ρ ⟨v5,v6,rfl⟩
       walk_at "rd"
       refine⟨YaU (show _<1000000 by rw [YaR];lia) #[1],?_⟩
       rw [Wao (by rw [G];exact YaY _)]
       have ag:JC (many l) (zE E B):=⟨G,fun r hr=>by
        rcases Ya3.mp hr with z|z
        . exact v.2 r z
        . rw [Ya6.mp z];exact G⟩
       exact a0 _ ⟨_,_,_,_,B.2,by show _=[_,_,_,_,some (Cl.ow true ((B.2++[addL B.1 E]).map dI)),_,_,_,_];rw [Ya2];rfl,ag,rfl,by show((B.2++[_]).length:Int)=_;rw [YaS];simp;lia⟩
   . intro ρ ζ;refine Hd fun x V=>?_;obtain⟨y3,y4,y5,y6,r,rfl,v,g,L⟩:=ζ;apply V
     exact hW _ ⟨_,_,_,_,_,_,r,rfl,v,g,#[94]⟩
 . intro ρ ζ;refine Hd fun x V=>?_;obtain⟨t1,t2,t3,t4,Z,Y,r,rfl,U,C,N⟩:=ζ;apply V
   walk_at "rd"
   exact q
theorem zkr(T:Txt c K mg):dd_law_row P w K mg base:=by
 have r:dd_law_wide P w K mg base:=zbK T;obtain⟨f,fd,F,hm⟩:=T.d_law_row;have S:FnScope ["_law_bottom", "_law_rows", "_law_cell", "_law_way", "_law_clans", "_law_had", "_law_row_here", "_law_t", "_law_behind", "_law_clan"] ["_law_bottom", "_law_rows", "_law_cell"] (zg zbw):=⟨rfl,rfl,rfl,#[3],rfl,#[3],#[3]⟩
 refine⟨fun ds Q Q' E E' hQ hE h=>?_,⟨f,fd,fn3 F S (fun ds Q E h=>?_) (fun cdv A outer s H E E3 hE hr=>?_),F.binds fun _ _ _ _ _ _ us hl=>by obtain⟨_,_,_,rfl⟩:=zbf hl;rfl,F.kp,hm⟩⟩
 . revert h;repeat' (first|exact fun h=>h|exact hQ _ _|exact hE _|refine Xl fun _=>?_|refine Xr ?_ ?_|refine forall_imp fun _=>?_)
 . obtain⟨_,_,_,_,rfl,_⟩:=h;rfl
 refine⟨_,(zd ((zk (i:=2) S.nd rfl #[2]) (df3 hE r (hr.mono #[1]) rfl zp (za (n3 2) (za i3 zb))))
  (zd ((zk (i:=3) S.nd rfl #[2]) (op3 zS (n3 2) i3))
  (zd ((zk (i:=2) S.nd rfl #[2]) (op3 zK (n3 2) i3))
  (zd ((zk (i:=4) S.nd rfl #[2]) (zq zH rfl T.n_len zC (za (at3 (n3 1) i3 (fun _ _=>rfl)) zb)))
  (zd ((jq (i:=5) S.nd rfl #[2]) (jP ["_law_k"] [] [] rfl (z0 (osc:=zg zbw) #[3]) rfl (jh rfl T.n_range (za (n3 4) zb)) (fun H0 s H fp l=>⟨(zl (i:=0) (show((["_law_k"]:List Xk)++([]:List Xk)).Nodup by decide) rfl #[2]),jD,i3⟩)))
  (zd ((jq (i:=6) S.nd rfl #[2]) (jg zb))
  (zd (zy WaP rfl (Z8 rfl T.n_range (za i3 (za (zq zH rfl T.n_len zC (za (n3 1) zb)) zb))) (zl (i:=7) S.nd rfl #[2]) (zd ((zcl (i:=8) S.nd rfl #[2]) ["_law_k"] ["_law_rows", "_law_t", "_law_had"] [1,7,5] rfl (z0 (osc:=zg zbw) #[3]) rfl (jh rfl T.n_range (za (n3 4) zb)) (fun H0 s H fp l=>⟨(zl (i:=0) (show((["_law_k"]:List Xk)++(["_law_rows", "_law_t", "_law_had"]:List Xk)).Nodup by decide) rfl #[2]),jD,(op3 jT (at3 (at3 (n3 1) (n3 2) (fun _ _=>rfl)) (n3 0) (fun _ _=>rfl)) (at3 (n3 3) (n3 0) (fun _ _=>rfl)))⟩))
   (zd ((zk (i:=9) S.nd rfl #[2]) (zms (n3 8) (zq (zmU rfl) rfl T.n_max zdx (za (n3 8) zb))))
   (zd (s_if (zr (jn hr.units) (n3 3) i3 (nomark _)) (zd ((zk (i:=9) S.nd rfl #[2]) (op3 zS (n3 2) (n3 4)))
    (ze ((zk (i:=2) S.nd rfl #[2]) (op3 zK (n3 2) (n3 4))))) zw)
   (zd (s_if (zr (jn hr.units) (n3 3) i3 (nomark _)) (zd (s_if (zr (jn hr.units) (op3 zS (n3 2) i3) i3 (nomark _)) (ze ((zk (i:=9) S.nd rfl #[2]) (op3 zS (op3 zU (n3 9) i3) (n3 4)))) zw)
    (ze ((zk (i:=2) S.nd rfl #[2]) (op3 zK (n3 2) i3)))) zw)
   (zd (zaX (i:=5) rfl #[2] (n3 9) (op3 zU (at3 (n3 5) (n3 9) (fun _ _=>rfl)) (n3 0)))
   (ze (jF (i:=6) rfl #[2] (n3 9)))))))))
  (ze (jA [6] (zu (n3 6))))))))))),fun ds Q h=>?_⟩
 refine Hd fun g V=>?_;obtain⟨b,a,cc,n,rfl,h1,h8,a5,a3,X,q⟩:=h;apply V;have G:∀ i (L:i<a.length),a[i].length=n:=fun i L=>X _ (Ya4 L)
 have a2:atI (a.map dI) 0=some (XB (a[0].map Xa)):=J9 (i:=0) #[0]
 have a1:=G 0 #[0]
 walk_at "rd a2 YaR a1"
 refine⟨#[1],#[1],fun v=>⟨#[1],divP,#[0],#[0],sz (by unfold nums;simp;omega),?_⟩⟩
 rw [Xi];unfold nums;refine jt (fun i:Nat=>Xa (0+(i:Nat))) (fun _=>Xa 0) (fun ρ=>∃ t,ρ = [t]) (Xe n) ?_ _ _ _ _ ⟨none,rfl⟩ ?_
 . rintro i L ρ fa Y K ⟨t,rfl⟩ k
   walk_at "rd"
   exact k _ ⟨_,rfl⟩
 have hz:[]++(Xe n).map (fun _=>Xa 0)=(Xb n (0:Int)).map Xa:=by
  rw [Xc,Wa9,YaG,Yaz]
 rw [hz];refine⟨#[1],#[1],#[0],#[0],?_⟩
 have e1:((a.length:Int) - 1).toNat=a.length - 1:=#[0]
 rw [e1];refine ja (lo:=1) (fun k ρ=>∃ (e j:List Int) (M:Int) (t u w:Option L3.Cl),ρ = [some (.sh true (.int b)),some (.sh false (.list (a.map dI))),some (.sh true (.int M)),some (.sh true (.int (v%3))),some (.sh true (.int n)),some (.ow true (e.map Xa)),some (.ow true (j.map Xa)),t,u,w]/\e.length=n/\j.length=k/\∀ c∈j,0<=c/\c<(n:Int)) ?_ ?_ ⟨_,[],_,none,none,none,rfl,by simp,rfl,fun c h=>by cases h⟩
 . rintro k ρ hk ⟨e,j,M,t,u,w,rfl,J,I,B⟩ W hW
   have R:k+1<a.length:=#[0]
   have Z:atI (a.map dI) (1+(k:Int))=some (XB (a[k+1].map Xa)):=by
    rw [show(1+(k:Int))=((k+1:Nat):Int) by omega];exact J9 R
   have a6:=G (k+1) R;have dn:∀ z:Int,jY z (n:Int):=fun z=>⟨#[0],Bits.lit (x:=(n:Int)) 9000 #[0]⟩
   ((try dsimp only [lE,fE,gn3,Xf,Xc,Xg,Xh,zt,Wbh,Wbv]);try simp only [lE,fE,gn3,Xf,Xc,Xg,Xh,zt,Wbw])
   refine z5 (fun y=>∃ E:List Int,y=[some (.sh true (.int b)),some (.sh false (.list (a.map dI))),some (.sh true (.int M)),some (.sh true (.int (v%3))),some (.sh true (.int n)),some (.ow true (e.map Xa)),some (.ow true (j.map Xa)),some (.sh true (.int (1+k))),some (.sh true (.list (E.map .int))),w]/\E.length=n) (fun N C=>?_) ?_
   . walk_at "rd"
     refine⟨#[0],#[0],sz (by unfold nums;simp;omega),?_⟩
     rw [Xi];unfold nums;refine jt (fun i:Nat=>Xa (0+(i:Nat))) (fun i=>Xa (a[k+1].getD i 0 - e.getD i 0)) (fun ρ=>∃ t,ρ = [t,some (.sh false (.list (a.map dI))),some (.sh true (.int (1+k))),some (.ow true (e.map .int))]) (Xe n) ?_ _ _ _ _ ⟨none,rfl⟩ ?_
     . rintro i L ρ fa Y K ⟨t,rfl⟩ kk
       have a4:=Yba.mp L;have ha:=jU (xs:=a[k+1]) (i:=0+(i:Int)) #[0] #[0]
       have hb:=jU (xs:=e) (i:=0+(i:Int)) #[0] #[0]
       rw [show(0+(i:Int)).toNat=i by omega] at ha hb
       walk_at "rd Z ha hb"
       exact kk _ ⟨_,rfl⟩
     . refine C _ ⟨(Xe n).map fun i=>a[k+1].getD i 0 - e.getD i 0,?_,by simp⟩
       rw [Xc,YaD];rfl
   rintro ρ ⟨E,rfl,U⟩
   have A:E≠[]:=fun z=>by rw [z] at U;simp at U;omega
   refine z5 (fun y=>∃ l:Int,y=[some (.sh true (.int b)),some (.sh false (.list (a.map dI))),some (.sh true (.int M)),some (.sh true (.int (v%3))),some (.sh true (.int n)),some (.ow true (e.map Xa)),some (.ow true (j.map Xa)),some (.sh true (.int (1+k))),some (.sh true (.list (E.map .int))),some (.sh true (.int l))]/\0<=l/\l<n) (fun N C=>?_) ?_
   . walk_at "rd"
     refine⟨E,jX _,E,jX _,A,zgL A,C _ ⟨_,rfl,#[0],?_⟩⟩
     have:=YT.mpr (zgL A)
     omega
   rintro ρ ⟨l,rfl,p⟩
   refine z5 (fun y=>∃ O l:Int,y=[some (.sh true (.int b)),some (.sh false (.list (a.map dI))),some (.sh true (.int O)),some (.sh true (.int (v%3))),some (.sh true (.int n)),some (.ow true (e.map Xa)),some (.ow true (j.map Xa)),some (.sh true (.int (1+k))),some (.sh true (.list (E.map .int))),some (.sh true (.int l))]/\0<=l/\l<n) (fun N C=>?_) ?_
   . walk_at "rd"
     refine ite2 (fun _=>⟨#[0],dn _,C _ ⟨_,_,rfl,Ybc _ #[0],Ybd _ #[0]⟩⟩) fun _=>C _ ⟨_,_,rfl,p⟩
   clear p
   rintro ρ ⟨O,l,rfl,p⟩
   refine z5 (fun y=>∃ O l:Int,y=[some (.sh true (.int b)),some (.sh false (.list (a.map dI))),some (.sh true (.int O)),some (.sh true (.int (v%3))),some (.sh true (.int n)),some (.ow true (e.map Xa)),some (.ow true (j.map Xa)),some (.sh true (.int (1+k))),some (.sh true (.list (E.map .int))),some (.sh true (.int l))]/\0<=l/\l<n) (fun N C=>?_) ?_
   . walk_at "rd"
     refine ite2 (fun _=>⟨#[1],ite2 (fun _=>⟨#[0],divP,C _ ⟨_,_,rfl,Ybc _ #[0],Ybd _ #[0]⟩⟩) fun _=>⟨divP,C _ ⟨_,_,rfl,p⟩⟩⟩) fun _=>C _ ⟨_,_,rfl,p⟩
   clear p
   rintro ρ ⟨O,l,rfl,p⟩
   have hg:=jU (xs:=e) (i:=l) p.1 #[0]
   have a0:ixN (e.map Xa).length l=some l.toNat:=by rw [YaR];exact JJ p.1 #[0]
   walk_at "rd hg a0"
   refine⟨YaU (show _<1000000 by rw [YaR];omega) #[1],hW _ ⟨e.set l.toNat (e.getD l.toNat 0+b),j++[l],_,_,_,_,by rw [Wbu,Ya2];rfl,by rw [YaN];exact J,by simp [I],fun x hx=>?_⟩⟩
   rcases Ya3.mp hx with z|z
   . exact B x z
   . rw [Ya6.mp z];exact p
 . intro ρ ζ;refine Hd fun g V=>?_;obtain⟨e,j,M,t,u,w,rfl,J,I,B⟩:=ζ;apply V
   walk_at "rd"
   exact q j #[0] B
theorem zj7(T:Txt c K mg):dd_law_ratio P w K mg base:=by
 obtain⟨f,fd,F,hm⟩:=T.d_law_ratio;have S:FnScope ["_law_top", "_law_bottom", "_law_one", "_law_other"] ["_law_top", "_law_bottom"] (zg (top 62)):=⟨rfl,rfl,rfl,#[3],rfl,#[3],#[3]⟩
 refine⟨fun ds Q Q' E E' hQ hE h=>?_,⟨f,fd,fn3 F S (fun ds Q E h=>?_) (fun cdv A outer s H E E3 hE hr=>?_),F.binds fun _ _ _ _ _ _ us hl=>by obtain⟨_,_,rfl⟩:=zaW hl;rfl,F.kp,hm⟩⟩
 . revert h;repeat' (first|exact fun h=>h|exact hQ _ _|exact hE _|refine Xl fun _=>?_|refine Xr ?_ ?_|refine forall_imp fun _=>?_)
 . obtain⟨_,_,rfl,_⟩:=h;rfl
 refine⟨_,(zd ((zk (i:=2) S.nd rfl #[2]) (zq zds rfl T.n_abs zcN (za (n3 0) zb)))
  (zd ((zk (i:=3) S.nd rfl #[2]) (n3 1))
  (zd (zaJ WaP (zr JB (n3 3) i3 (nomark _)) (ze (zlh (i:=2) (j:=3) rfl S.nd rfl rfl #[1] rfl rfl (za (n3 3) (za (op3 zS (n3 2) (n3 3)) zb)))))
  (ze (zu (zZ (za (op3 zK (n3 0) (n3 2)) (za (op3 zK (n3 1) (n3 2)) zb)))))))),fun G Q h=>?_⟩
 obtain⟨a,b,rfl,s,u,q⟩:=h
 walk_at "rd"
 refine⟨_,ZN (fun n ρ=>∃ g l,ρ = [some (.sh true (.int a)),some (.sh true (.int b)),some (.sh true (.int g)),some (.sh true (.int l))]/\0<=g/\0<=l/\Xp g l=Xp a b/\n=l.toNat) ?_ _ _ ⟨_,_,rfl,by split<;>omega,#[0],?_,rfl⟩⟩
 . rintro n ρ ⟨g,l,rfl,hg,z,hG,rfl⟩ W A
   walk_at "rd"
   by_cases h0:0<l
   . rw [if_pos h0]
     have h1:=Ybc g (show l≠0 by omega)
     have E:=Ybd g h0;exact⟨h0,A (g%l).toNat _ #[0] ⟨l,g%l,rfl,z,h1,(zgA hg h0).trans hG,rfl⟩⟩
   . rw [if_neg h0]
     have hz:l=0:=#[0]
     subst hz;have e:g=(Xp a b:Int):=by rw [<-hG,zfK hg]
     subst e;exact⟨zeA s u,zeA s u,q⟩
 . have:=zed a b
   rw [if_neg (show ¬b<0 by omega)] at this
   exact this
theorem zmJ(T:Txt c K mg):dd_law_limits P w K mg base:=by
 have U:dd_law_wide P w K mg base:=zbK T;have C:dd_law_ratio P w K mg base:=zj7 T;refine Hd fun O Y=>?_;obtain⟨f,fd,F,hm⟩:=T.d_law_limits;apply Y;have S:FnScope ["_law_bottom", "_law_rows", "_law_row_here", "_law_cell", "_law_own", "_law_clans", "_law_had", "_law_most", "_law_t", "_law_k", "_law_bounds", "_law_pair", "_law_side", "_law_under"] ["_law_bottom", "_law_rows", "_law_row_here", "_law_cell", "_law_own"] (zg zbD):=⟨rfl,rfl,rfl,#[3],rfl,#[3],#[3]⟩
 refine⟨fun ds Q Q' E E' hQ hE h=>?_,⟨f,fd,fn3 F S (fun ds Q E h=>?_) (fun cdv A outer s H E E3 hE hr=>?_),F.binds fun _ _ _ _ _ _ us hl=>by obtain⟨_,_,_,_,_,rfl⟩:=zdw hl;rfl,F.kp,hm⟩⟩
 . revert h;repeat' (first|exact fun h=>h|exact hQ _ _|exact hE _|refine Xl fun _=>?_|refine Xr ?_ ?_|refine forall_imp fun _=>?_)
 . obtain⟨_,_,_,_,_,_,rfl,_⟩:=h;rfl
 refine⟨_,(zd ((zk (i:=5) S.nd rfl #[2]) (zq zH rfl T.n_len zC (za (at3 (n3 1) i3 (fun _ _=>rfl)) zb)))
  (zd ((zia (i:=6) S.nd rfl #[2]) ["_law_k"] [] [] rfl (z0 (osc:=zg zbD) #[3]) rfl (jh rfl T.n_range (za (n3 5) zb)) (fun H0 s H fp cl=>⟨(zl (i:=0) (show((["_law_k"]:List Xk)++([]:List Xk)).Nodup by decide) rfl #[2]),jD,i3⟩))
  (zd ((zeq (i:=7) S.nd rfl #[2]) ["_law_k"] [] [] rfl (z0 (osc:=zg zbD) #[3]) rfl (jh rfl T.n_range (za (n3 5) zb)) (fun s H fp cl=>⟨jl (i:=0) (show((["_law_k"]:List Xk)++([]:List Xk)).Nodup by decide) rfl #[2] (by first|exact .inl rfl|exact .inr rfl),zbV (zn jO (zn jO zJ))⟩) (fun σ H Q h=>⟨show 2<=sizeLine by decide,h⟩) (fun G=>(RdVs.cons (RdV.int 0) (RdVs.cons (RdV.int 0) RdVs.nil))) rfl)
  (zd (zy WaP rfl (Z8 rfl T.n_range (za i3 (za (zq zH rfl T.n_len zC (za (n3 1) zb)) zb))) (zl (i:=8) S.nd rfl #[2]) (zd (zaX (i:=6) rfl #[2] (at3 (n3 2) (op3 jT (n3 8) i3) (fun _ _=>rfl)) (op3 zU (at3 (n3 6) (at3 (n3 2) (op3 jT (n3 8) i3) (fun _ _=>rfl)) (fun _ _=>rfl)) (n3 0)))
   (ze (zy WaP rfl (jh rfl T.n_range (za (n3 5) zb)) (zl (i:=9) S.nd rfl #[2]) (zd (zha (i:=7) rfl #[2] (n3 9) i3 (zq (zgo rfl) rfl T.n_max zdx (za (at2 (i:=7) rfl #[2] (n3 9) i3 (fun _ _=>rfl) (fun _ _=>rfl)) (za (op3 jT (at3 (at3 (n3 1) (n3 8) (fun _ _=>rfl)) (n3 9) (fun _ _=>rfl)) (at3 (n3 6) (n3 9) (fun _ _=>rfl))) zb))) (fun _ _=>rfl))
    (ze (zha (i:=7) rfl #[2] (n3 9) i3 (zq (zgo rfl) rfl T.n_max zdx (za (at2 (i:=7) rfl #[2] (n3 9) i3 (fun _ _=>rfl) (fun _ _=>rfl)) (za (op3 jT (at3 (n3 6) (n3 9) (fun _ _=>rfl)) (at3 (at3 (n3 1) (n3 8) (fun _ _=>rfl)) (n3 9) (fun _ _=>rfl))) zb))) (fun _ _=>rfl))))))))
  (zd ((jq (i:=10) S.nd rfl #[2]) (jg zb))
  (zd ((zk (i:=3) S.nd rfl #[2]) (df3 hE U (hr.mono #[1]) rfl zp (za (n3 3) (za i3 zb))))
  (zd (zy WaP rfl (jh rfl T.n_range (za (n3 5) zb)) (zl (i:=9) S.nd rfl #[2]) (zd ((jq (i:=11) S.nd rfl #[2]) (jg (za (zZ (za i3 (za i3 zb))) (za (zZ (za i3 (za i3 zb))) zb))))
   (zd (zy WaP rfl (jh rfl T.n_range (za i3 zb)) (zl (i:=12) S.nd rfl #[2]) (zd ((zk (i:=13) S.nd rfl #[2]) (op3 zU i3 (op3 zS (op3 zK (n3 3) i3) i3)))
    (zd (s_if (pw3 (zaQ (zr (jn hr.units) (op3 zS (n3 3) i3) i3 (nomark _)) (zba (val3 (n3 4))))) (ze (zaX (i:=11) rfl #[2] (n3 12) (df3 hE C (hr.mono #[1]) rfl zp (za (zq (zhc rfl) rfl T.n_min zgg (za (at2 (i:=7) rfl #[2] (n3 9) (n3 12) (fun _ _=>rfl) (fun _ _=>rfl)) (za (op3 zX i3 (n3 0)) zb))) (za (n3 0) zb))))) zw)
    (zd (s_if (pw3 (zbR (zr (jn hr.units) (op3 zS (n3 3) i3) i3 (nomark _)) (zbP (ZP (val3 (n3 4)))))) (ze (zaX (i:=11) rfl #[2] (n3 12) (df3 hE C (hr.mono #[1]) rfl zp (za (op3 zS (op3 zK (n3 3) i3) (op3 zX i3 (n3 13))) (za (n3 13) zb))))) zw)
    (ze ((zk (i:=3) S.nd rfl #[2]) (op3 zK (op3 zK (n3 3) i3) (op3 zX i3 (n3 13)))))))))
   (ze (jF (i:=10) rfl #[2] (zZ (za (at3 (n3 11) i3 (fun _ _=>rfl)) (za (at3 (n3 11) i3 (fun _ _=>rfl)) zb))))))))
  (ze (jA [10] (zu (n3 10))))))))))),fun ds Q h=>?_⟩
 refine Hd fun O Y=>?_;obtain⟨b,e,l,cc,own,n,rfl,a8,a0,h1,h8,ar,hrl,ak,hc,q⟩:=h;apply Y;have a4:∀ i (hi:i<e.length),e[i].length=n:=fun i hi=>ak _ (Ya4 hi)
 have hd0:atI (e.map dI) 0=some (XB (e[0].map Xa)):=J9 (i:=0) #[0]
 have h0n:=a4 0 #[0]
 refine zj fun N B=>?_
 walk_at "rd hd0 YaR h0n"
 refine B _ ?_
 clear B N;refine zj fun N B=>?_
 walk_at "rd"
 refine⟨#[0],#[0],sz (by unfold nums;simp;omega),?_⟩
 rw [Xi];unfold nums;refine jt (fun i:Nat=>Xa (0+(i:Nat))) (fun _=>Xa 0) (fun ρ=>∃ t,ρ = [t]) (Xe n) ?_ _ _ _ _ ⟨none,rfl⟩ ?_
 . rintro i hi ρ fa as K ⟨t,rfl⟩ k
   walk_at "rd"
   exact k _ ⟨_,rfl⟩
 have hz:[]++(Xe n).map (fun _=>Xa 0)=(Xb n (0:Int)).map Xa:=by
  rw [Xc,Yaz,Wa9,YaG]
 rw [hz];refine B _ ?_;clear B N;refine zj fun N B=>?_
 walk_at "rd"
 refine⟨#[0],#[0],by rw [zdI];omega,fun ps hps=>B _ ?_⟩
 clear B N;rw [zdI,Xi];have hm0:Xb n [Xa 0,Xa 0]=(Xe n).map fun _=>pr2 (0,0):=by
  rw [Wa9,YaG];rfl
 rw [hm0];have e1:((e.length:Int) - 1).toNat=l.length:=#[0]
 refine z5 (fun ρ=>∃ (g:Nat->Int×Int) (R:List Int) (t8 t9:Option L3.Cl),ρ = lE b e l cc own n R ps g [t8,t9,none,none,none,none]/\R.length=n/\∀ k,0<=(g k).1/\0<=(g k).2) (fun N B=>?_) ?_
 . walk_at "rd"
   rw [YaR,e1];refine⟨#[1],#[1],#[0],#[0],?_⟩
   refine ja (lo:=1) (fun t ρ=>∃ (g:Nat->Int×Int) (R:List Int) (t8 t9:Option L3.Cl),ρ = lE b e l cc own n R ps g [t8,t9,none,none,none,none]/\R.length=n/\∀ k,0<=(g k).1/\0<=(g k).2) ?_ (fun ρ h=>B ρ h) ⟨fun _=>(0,0),Xb n 0,none,none,rfl,Ybb ..,fun _=>⟨Wbz _,Wbz _⟩⟩
   rintro t ρ ht ⟨g,R,t8,t9,rfl,ag,hg⟩ W hW
   have hk1:t+1<e.length:=#[0]
   have ac:=hc l[t] (Ya4 ht);have hrk:atI (l.map Xa) (1+(t:Int) - 1)=some (Xa l[t]):=by
    rw [show 1+(t:Int) - 1=0+(t:Int) by omega];exact zb4 ht
   have hrr:atI (e.map dI) (1+(t:Int))=some (XB (e[t+1].map Xa)):=by
    rw [show(1+(t:Int))=((t+1:Nat):Int) by omega];exact J9 hk1
   have hrl:=a4 (t+1) hk1;have an:=jU (xs:=R) (i:=l[t]) ac.1 #[0]
   have ao:ixN (R.map Xa).length l[t]=some l[t].toNat:=by rw [YaR];exact JJ ac.1 #[0]
   obtain⟨hd',hset,aj⟩:∃ hd':List Int,(R.map Xa).set l[t].toNat (Xa (R.getD l[t].toNat 0+b))=hd'.map Xa/\hd'.length=n:=⟨R.set l[t].toNat (R.getD l[t].toNat 0+b),by rw [Wbu],by rw [YaN,ag]⟩
   ((try dsimp only [lE,fE,gn3,Xf,Xc,Xg,Xh,zt,Wbh,Wbv]);try simp only [lE,fE,gn3,Xf,Xc,Xg,Xh,zt,Wbw])
   refine zj fun N B=>?_
   walk_at "rd hrk an ao hset"
   refine B _ ?_
   clear B N
   walk_at "rd"
   refine⟨#[0],#[0],?_⟩
   rw [Xi];refine ja (fun i ρ=>∃ (g:Nat->Int×Int) (t9:Option L3.Cl),ρ = lE b e l cc own n hd' ps g [some (.sh true (.int (1+t))),t9,none,none,none,none]/\∀ k,0<=(g k).1/\0<=(g k).2) ?_ ?_ ⟨g,_,rfl,hg⟩
   . rintro i ρ hi ⟨g,t9,rfl,hg⟩ W' a3
     have ha:=jU (xs:=e[t+1]) (i:=0+(i:Int)) #[0] #[0]
     have hb:=jU (xs:=hd') (i:=0+(i:Int)) #[0] #[0]
     rw [show(0+(i:Int)).toNat=i by omega] at ha hb
     generalize hd'.getD i 0=hv at hb;generalize e[t+1].getD i 0=rv at ha;have hixn:∀ {α : Type} (f:Nat->α),ixN ((Xe n).map f).length (0+(i:Int))=some i:=fun f=>by
      rw [YaR,YaG,JJ #[0] #[0]];congr 1;omega
     have hat:∀ {α : Type} (f:Nat->α),atI ((Xe n).map f) (0+(i:Int))=some (f i):=fun f=>by
      rw [zcz f (xs:=Xe n) (by rw [YaG];exact hi),WC]
     have p0:∀ p:Int×Int,atI (pr2 p) 0=some (Xa p.1):=fun _=>rfl
     have p1:∀ p:Int×Int,atI (pr2 p) 1=some (Xa p.2):=fun _=>rfl
     have x0:∀ p:Int×Int,ixN (pr2 p).length 0=some 0:=fun _=>rfl
     have x1:∀ p:Int×Int,ixN (pr2 p).length 1=some 1:=fun _=>rfl
     have s0:∀ (p:Int×Int) (y:Int),(pr2 p).set 0 (Xa y)=pr2 (y,p.2):=fun _ _=>rfl
     have s1:∀ (p:Int×Int) (y:Int),(pr2 p).set 1 (Xa y)=pr2 (p.1,y):=fun _ _=>rfl
     have af:∀ (g:Nat->Int×Int) (p:Int×Int),((Xe n).map fun k=>pr2 (g k)).set i (pr2 p)=(Xe n).map fun k=>pr2 (if k=i then p else g k):=fun g p=>by
      rw [zlr]
      congr 1
      funext k
      split<;>rfl
     ((try dsimp only [lE,fE,gn3,Xf,Xc,Xg,Xh,zt,Wbh,Wbv]);try simp only [lE,fE,gn3,Xf,Xc,Xg,Xh,zt,Wbw])
     refine z5 (fun ρ'=>∃ g2:Nat->Int×Int,ρ'=lE b e l cc own n hd' ps g2 [some (.sh true (.int (1+t))),some (.sh true (.int (0+i))),none,none,none,none]/\∀ k,0<=(g2 k).1/\0<=(g2 k).2) (fun N B=>?_) ?_
     . walk_at "rd hrr ha hb hixn hat p0 p1 x0 x1 s0 s1 af"
       refine B _ ⟨_,rfl,fun k=>?_⟩
       have:=hg i
       split
       . exact⟨by dsimp only;split<;>omega,this.2⟩
       . exact hg k
     rintro ρ ⟨g2,rfl,hg2⟩
     walk_at "rd hrr ha hb hixn hat p0 p1 x0 x1 s0 s1 af"
     refine a3 _ ⟨_,_,rfl,fun k=>?_⟩
     have:=hg2 i
     split
     . exact⟨this.1,by dsimp only;split<;>omega⟩
     . exact hg2 k
   . intro ρ u;refine Hd fun O Y=>?_;obtain⟨g,t9,rfl,hg⟩:=u;apply Y
     exact hW _ ⟨g,hd',_,_,rfl,aj,hg⟩
 intro ρ u;refine Hd fun O Y=>?_;obtain⟨g,R,t8,t9,rfl,ag,hg⟩:=u;apply Y
 refine zj fun N B=>?_
 walk_at "rd"
 refine B _ ?_
 clear B N;refine zj fun N B=>?_
 walk_at "rd"
 refine⟨#[1],#[1],fun v=>B _ ?_⟩
 clear B N
 walk_at "rd"
 refine⟨#[0],#[0],?_⟩
 rw [Xi];refine ja (fun k ρ=>∃ (bs:List (Rat2×Rat2)) (c':Int) (t9 a7 t12 t13:Option L3.Cl),ρ = lE b e l c' own n R ps g [t8,t9,some (.ow true (bs.map dP)),a7,t12,t13]/\bs.length=k/\∀ p∈bs,(okQ p.1/\okQ p.2)/\inQ p.1/\inQ p.2) ?_ ?_ ⟨[],_,_,none,none,none,rfl,rfl,fun p h=>by cases h⟩
 . rintro k ρ hk ⟨bs,c',t9,a7,t12,t13,rfl,hbl,Z⟩ W hW
   ((try dsimp only [lE,fE,gn3,Xf,Xc,Xg,Xh,zt,Wbh,Wbv]);try simp only [lE,fE,gn3,Xf,Xc,Xg,Xh,zt,Wbw])
   refine zj fun N B=>?_
   walk_at "rd"
   refine B _ ?_
   clear B N;have qi:∀ x y:Int,0<y->0<=x->x<=10*y->Bits 1000 y->okQ (lowQ x y)/\inQ (lowQ x y):=fun x y h h0 h1 hb=>⟨zib h ((((Bits.lit (x:=10) 64).mul hb).le #[0]).mono #[1]) (hb.mono #[1]),zkR h h0 h1⟩
   refine z5 (fun ρ'=>∃ (r0 r1:Rat2) (c':Int) (t12 t13:Option L3.Cl),ρ'=lE b e l c' own n R ps g [t8,some (.sh true (.int (0+k))),some (.ow true (bs.map dP)),some (.ow true [dQ r0,dQ r1]),t12,t13]/\(okQ r0/\inQ r0)/\okQ r1/\inQ r1) (fun N B=>?_) ?_
   . walk_at "rd"
     refine⟨#[1],#[1],?_⟩
     rw [show(2:Int).toNat=2 from rfl]
     refine ja (fun i ρ=>∃ (r0 r1:Rat2) (c':Int) (t12 t13:Option L3.Cl),ρ = lE b e l c' own n R ps g [t8,some (.sh true (.int (0+k))),some (.ow true (bs.map dP)),some (.ow true [dQ r0,dQ r1]),t12,t13]/\(okQ r0/\inQ r0)/\okQ r1/\inQ r1) ?_ (fun ρ h=>B ρ h) ⟨(1,1),(1,1),_,_,_,rfl,⟨⟨#[1],Bits.lit (x:=1) 1200,Bits.lit (x:=1) 1200⟩,#[1],#[1]⟩,⟨#[1],Bits.lit (x:=1) 1200,Bits.lit (x:=1) 1200⟩,#[1],#[1]⟩
     rintro i ρ hi ⟨r0,r1,c',t12,t13,rfl,L,J⟩ W' a3
     have hat:∀ {α : Type} (f:Nat->α),atI ((Xe n).map f) (0+(k:Int))=some (f k):=fun f=>by
      rw [zcz f (xs:=Xe n) (by rw [YaG];exact hk),WC]
     obtain⟨m,hm0,hm⟩:∃ m:Int,0<=m/\atI (pr2 (g k)) (0+(i:Int))=some (Xa m):=by
      rcases(show i=0\/i=1 by omega) with rfl|rfl
      . exact⟨_,(hg k).1,rfl⟩
      . exact⟨_,(hg k).2,rfl⟩
     have put:∀ r,okQ r/\inQ r->∀ r0 r1,(okQ r0/\inQ r0)/\okQ r1/\inQ r1->∃ j,ixN ([dQ r0,dQ r1]:List D).length (0+(i:Int))=some j/\∃ s0 s1,([dQ r0,dQ r1]:List D).set j (dQ r)=[dQ s0,dQ s1]/\(okQ s0/\inQ s0)/\okQ s1/\inQ s1:=fun r hr r0 r1 ⟨h0,h1⟩=>by
      rcases(show i=0\/i=1 by omega) with rfl|rfl
      . exact⟨0,rfl,r,r1,rfl,hr,h1⟩
      . exact⟨1,rfl,r0,r,rfl,h0,hr⟩
     ((try dsimp only [lE,fE,gn3,Xf,Xc,Xg,Xh,zt,Wbh,Wbv]);try simp only [lE,fE,gn3,Xf,Xc,Xg,Xh,zt,Wbw])
     have hu:1<=1+c'/3%6/\1+c'/3%6<=6:=#[0]
     refine zj fun N B=>?_
     walk_at "rd"
     refine⟨divP,#[1],B _ ?_⟩
     clear B N;generalize 1+c'/3%6=ud at hu ⊢;have hmu:IntMulOk 2 ud:=(Bits.lit (x:=2) 64).mulOk (Bits.lit (x:=ud) 64 #[0]) #[1]
     have ab:∀ (r0 r1:Rat2),(okQ r0/\inQ r0)/\okQ r1/\inQ r1->W' (lE b e l ((c'/18/(2*ud))) own n R ps g [t8,some (.sh true (.int (0+k))),some (.ow true (bs.map dP)),some (.ow true [dQ r0,dQ r1]),some (.sh true (.int (0+i))),some (.sh true (.int ud))]):=fun r0 r1 h=>a3 _ ⟨r0,r1,_,_,_,rfl,h⟩
     clear a3;refine z5 (fun ρ'=>∃ (r0 r1:Rat2),ρ'=lE b e l c' own n R ps g [t8,some (.sh true (.int (0+k))),some (.ow true (bs.map dP)),some (.ow true [dQ r0,dQ r1]),some (.sh true (.int (0+i))),some (.sh true (.int ud))]/\(okQ r0/\inQ r0)/\okQ r1/\inQ r1) (fun N B=>?_) ?_
     . walk_at "rd hat hm"
       refine Hd fun O Y=>?_;obtain⟨j,hj,s0,s1,hs,h⟩:=put _ (qi (if 10*b<m then 10*b else m) b a8 (by split<;>omega) (by split<;>omega) (a0.mono #[1])) r0 r1 ⟨L,J⟩;apply Y
       have y:=B _ ⟨s0,s1,rfl,h⟩;rw [<-hs] at y;exact⟨#[1],ite2 (fun _=>⟨(Bits.lit (x:=10) 64).mulOk a0 #[1],a8,a0.mono #[1],j,hj,y⟩) fun _=>ite2 (fun _=>⟨(Bits.lit (x:=10) 64).mulOk a0 #[1],a8,a0.mono #[1],j,hj,y⟩) fun _=>B _ ⟨r0,r1,rfl,L,J⟩⟩
     clear L J r0 r1
     intro ρ u;refine Hd fun O Y=>?_;obtain⟨r0,r1,rfl,L,J⟩:=u;apply Y
     walk_at "rd"
     have e0:=Ybc (c'/18) (show 2*ud≠0 by omega)
     have e1:=Ybd (c'/18) (show 0<2*ud by omega)
     refine Hd fun O Y=>?_;obtain⟨j,hj,s0,s1,hs,h⟩:=put _ (qi (c'/18%(2*ud)) ud #[0] e0 #[0] (Bits.lit (x:=ud) 1000 #[0])) r0 r1 ⟨L,J⟩;apply Y
     have y:=ab s0 s1 h;rw [<-hs] at y;have y2:=ab r0 r1 ⟨L,J⟩;have dd:jY (c'/18) (2*ud):=⟨#[0],Bits.lit (x:=2*ud) 9000 #[0]⟩
     exact⟨#[1],ite2 (fun _=>ite2 (fun _=>⟨divP,hmu,#[0],#[0],Bits.lit (x:=ud) 9000 #[0],j,hj,divP,hmu,dd,y⟩) fun _=>⟨divP,hmu,dd,y2⟩) fun _=>⟨divP,hmu,dd,y2⟩⟩
   intro ρ u;refine Hd fun O Y=>?_;obtain⟨r0,r1,c',t12,t13,rfl,L,J⟩:=u;apply Y
   walk_at "rd atI0 atI1 YaR"
   refine⟨YaU (show _<1000 by omega) #[1],hW _ ⟨bs++[(r0,r1)],_,_,_,_,_,by rw [Ya2];rfl,by simp [hbl],fun p hp=>?_⟩⟩
   rcases Ya3.mp hp with z|z
   . exact Z p z
   . rw [Ya6.mp z];exact⟨⟨L.1,J.1⟩,L.2,J.2⟩
 . intro ρ u;refine Hd fun O Y=>?_;obtain⟨bs,c',t9,a7,t12,t13,rfl,hbl,Z⟩:=u;apply Y
   walk_at "rd"
   exact q bs ⟨hbl,fun p hp=>(Z p hp).2⟩ fun p hp=>(Z p hp).1
theorem zmv(T:Txt c K mg):dd_law_rules P w K mg base:=by
 have a:dd_law_wide P w K mg base:=zbK T;obtain⟨f,fd,F,hm⟩:=T.d_law_rules;have S:FnScope ["_law_turns", "_law_clans", "_law_cell", "_law_rules_here", "_law_count", "_law_k", "_law_word"] ["_law_turns", "_law_clans", "_law_cell"] (zg (top 66)):=⟨rfl,rfl,rfl,#[3],rfl,#[3],#[3]⟩
 refine⟨fun ds Q Q' E E' hQ hE h=>?_,⟨f,fd,fn3 F S (fun ds Q E h=>?_) (fun cdv A outer s H E E3 hE hr=>?_),F.binds fun _ _ _ _ _ _ us hl=>by obtain⟨_,_,_,rfl⟩:=zbf hl;rfl,F.kp,hm⟩⟩
 . revert h;repeat' (first|exact fun h=>h|exact hQ _ _|exact hE _|refine Xl fun _=>?_|refine Xr ?_ ?_|refine forall_imp fun _=>?_)
 . obtain⟨_,_,_,rfl,_⟩:=h;rfl
 refine⟨_,(zd ((jq (i:=3) S.nd rfl #[2]) (jg zb))
  (zd ((zk (i:=2) S.nd rfl #[2]) (df3 hE a (hr.mono #[1]) rfl zp (za (n3 2) (za i3 zb))))
  (zd ((zk (i:=4) S.nd rfl #[2]) (op3 zS (n3 2) i3))
  (zd ((zk (i:=2) S.nd rfl #[2]) (op3 zK (n3 2) i3))
  (zd (zy WaP rfl (jh rfl T.n_range (za (n3 4) zb)) (zl (i:=5) S.nd rfl #[2]) (zd ((zk (i:=6) S.nd rfl #[2]) (at3 (new3 (jg (za s3 (za s3 (za s3 zb))))) (op3 zS (n3 2) i3) (fun _ _=>rfl)))
   (zd (jF (i:=3) rfl #[2] (zZ (za (n3 6) (za (op3 zU i3 (op3 zS (op3 zK (n3 2) i3) (n3 0))) (za (op3 zS (op3 zK (op3 zK (n3 2) i3) (n3 0)) (n3 1)) zb)))))
   (ze ((zk (i:=2) S.nd rfl #[2]) (op3 zK (op3 zK (op3 zK (n3 2) i3) (n3 0)) (n3 1)))))))
  (ze (jA [3] (zu (n3 3))))))))),fun ds Q h=>?_⟩
 obtain⟨b,n,cc,rfl,hT1,Z,hn1,L,q⟩:=h;(refine zj fun N hN=>?_;walk_at "rd")
 refine hN _ ?_;clear hN N;refine zj fun N hN=>?_;walk_at "rd"
 refine⟨#[1],#[1],fun v=>hN _ ?_⟩
 clear hN N;refine zj fun N hN=>?_;walk_at "rd"
 refine⟨#[1],hN _ ?_⟩
 clear hN N;have hc8:0<=v%8/\v%8<8:=#[0]
 generalize v%8=U at hc8 ⊢;(refine zj fun N hN=>?_;walk_at "rd")
 refine⟨divP,hN _ ?_⟩
 clear hN N
 walk_at "rd"
 refine⟨#[0],#[0],?_⟩
 refine ja (fun k ρ=>∃ (rs:List Rule) (E:Int) (A y:Option L3.Cl),ρ = [some (.sh true (.int b)),some (.sh true (.int n)),some (.sh true (.int E)),some (.ow true (rs.map dRl)),some (.sh true (.int U)),A,y]/\okRs b n rs/\txtR rs/\rs.length=k) ?_ ?_ ⟨[],_,none,none,rfl,fun r h=>(by cases h),fun r h=>(by cases h),rfl⟩
 . rintro k ρ hk ⟨rs,x,A,y,rfl,l,p,G⟩ W hW
   ((try dsimp only [lE,fE,gn3,Xf,Xc,Xg,Xh,zt,Wbh,Wbv]);try simp only [lE,fE,gn3,Xf,Xc,Xg,Xh,zt,Wbw])
   obtain⟨d,hd,hm,_⟩:=zbt (xs:=[YU "barred", YU "fixed", YU "barred"]) (i:=x%3) #[0] (by show x%3<3;omega)
   obtain⟨w,rfl,hw,R⟩:∃ z:Str,d=YU z/\(z = "fixed"\/z = "barred")/\Xt (.str z)=true:=by
    simp only [Wbe,Wa0,or_false] at hm
    rcases hm with rfl|rfl|rfl
    . exact⟨_,rfl,.inr rfl,zhf⟩
    . exact⟨_,rfl,.inl rfl,zj2⟩
    . exact⟨_,rfl,.inr rfl,zhf⟩
   refine zj fun N hN=>?_;walk_at "rd"
   refine⟨#[1],_,hd,hN _ ?_⟩
   clear hN N hd hm;have e1:=Ybc (x/3) (show b≠0 by omega)
   have e2:=Ybd (x/3) (show 0<b by omega)
   have J:=Ybc (x/3/b) (show n≠0 by omega)
   have e4:=Ybd (x/3/b) (show 0<n by omega)
   walk_at "rd YaR"
   have dT:jY (x/3) b:=⟨#[0],Bits.lit (x:=b) 9000 #[0]⟩
   have dn:jY (x/3/b) n:=⟨#[0],Bits.lit (x:=n) 9000 #[0]⟩
   refine⟨divP,#[0],divP,dT,#[0],YaU (show _<1000 by omega) #[1],divP,dT,dn,hW _ ⟨rs++[(w,1+x/3%b,x/3/b%n)],_,_,_,by rw [Ya2];rfl,fun r hr=>?_,fun r hr=>?_,by simp [G]⟩⟩
   . rcases Ya3.mp hr with z|z
     . exact l r z
     . rw [Ya6.mp z]
       exact⟨hw,⟨by show 1<=1+x/3%b;omega,by show 1+x/3%b<=b;omega⟩,J,e4⟩
   . rcases Ya3.mp hr with z|z
     . exact p r z
     . rw [Ya6.mp z];exact R
 rintro ρ ⟨rs,E,A,y,rfl,l,p,G⟩
 walk_at "rd"
 exact q rs l p #[0]
theorem zlZ(T:Txt c K mg):dd_check_weights c P w K mg base:=by
 obtain⟨f,fd,F,hm⟩:=T.d_check_weights;have S:FnScope ["weights", "weight"] ["weights"] (zg (top 25)):=⟨rfl,rfl,rfl,#[3],rfl,#[3],#[3]⟩
 refine⟨fun ds Q Q' E E' hQ hE h=>?_,⟨f,fd,fn3 F S (fun ds Q E h=>?_) (fun cdv A outer s H E E3 hE hr=>?_),F.binds fun _ _ _ _ _ _ us hl=>by obtain⟨_,rfl⟩:=ziJ hl;rfl,F.kp,hm⟩⟩
 . revert h;repeat' (first|exact fun h=>h|exact hQ _ _|exact hE _|refine Xl fun _=>?_|refine Xr ?_ ?_|refine forall_imp fun _=>?_)
 . obtain⟨_,rfl,_⟩:=h;rfl
 refine⟨_,(zd (s_if (ZP (za4 Jp Jp i3 (zq zH rfl T.n_len zC (za (n3 0) zb)) (g3i rfl T.m_MOST_CLANS))) (ze (jo hE jv rfl rfl T.m_NoSpell T.e_NoSpell (za s3 zb))) zw)
  (zd (zy WaP rfl (zW (n3 0)) (zl (i:=1) S.nd rfl #[2]) (zd (s_if (zr Jh (n3 1) i3 (nomark _)) (ze (jo hE jv rfl rfl T.m_NoSpell T.e_NoSpell (za s3 zb))) zw)
   (ze (s_if (zr ze3 (n3 1) (op3 Jy i3 i3) (nomark _)) (ze (jo hE jv rfl rfl T.m_NoSpell T.e_NoSpell (za s3 zb))) zw))))
  (ze (s_if (zr (jn hr.units) (zq (JA rfl) rfl T.n_sum Jw (za (n3 0) zb)) i3 (nomark _)) (ze (jo hE jv rfl rfl T.m_NoSpell T.e_NoSpell (za s3 zb))) zw)))),fun y Q h=>?_⟩
 obtain⟨j,rfl,q,hE'⟩:=h
 walk_at "rd"
 simp only [YaR]
 by_cases s:1<=(j.length:Int)
 case neg=>rw [if_neg s];exact hE' fun z=>s (by have:=z.1.1;lia)
 rw [if_pos s]
 by_cases h2:(j.length:Int)<=8
 case neg=>rw [if_pos h2];exact hE' fun z=>h2 (by have:=z.1.2;lia)
 rw [if_neg (fun z=>z h2)]
 refine zaB (fun y ρ=>∃ a t,y=a.map Xa/\ρ = [some (.sh false (.list (j.map .int))),t]/\(∀ w∈a,w∈j)/\∀ w∈j,w∈a\/(0<=w/\w<10 ^ 30)) ?_ ?_ _ _ ⟨j,none,rfl,rfl,fun _ h=>h,fun _ h=>.inl h⟩
 . rintro d y ρ ⟨a,t,e,rfl,l,hall⟩ W A
   cases a with
   | nil=>cases e
   | cons w a=>
    cases e;have hw:=l w YaV
    walk_at "rd"
    by_cases h3:w<0
    . rw [if_pos h3];exact hE' fun z=>by have:=(z.2.1 w hw).1;lia
    rw [if_neg h3];refine⟨p30,?_⟩
    by_cases h4:(10:Int) ^ XX 30<=w
    . rw [if_pos h4];exact hE' fun z=>by have:=(z.2.1 w hw).2;exact absurd h4 (by have e:(10:Int) ^ XX 30=10 ^ 30:=rfl;lia)
    rw [if_neg h4];refine A _ ⟨a,_,rfl,rfl,fun x r=>l x (YaT _ r),fun x r=>?_⟩
    rcases hall x r with z|z
    . rcases Wbe.mp z with rfl|z
      . exact .inr ⟨#[94],by have e:(10:Int) ^ XX 30=10 ^ 30:=rfl;lia⟩
      . exact .inl z
    . exact .inr z
 . rintro ρ ⟨a,t,e,rfl,l,hall⟩
   cases a with
   | cons _ _=>cases e
   | nil=>
    walk_at "rd"
    refine⟨j,jX j,?_⟩
    by_cases h3:j.sum=0
    . rw [if_pos h3];exact hE' fun z=>z.2.2 h3
    . rw [if_neg h3]
      exact q ⟨⟨#[94],#[94]⟩,fun w hw=>(hall w hw).resolve_left (by simp),h3⟩
theorem zmP(T:Txt c K mg):dd_all_turns P w K mg base:=by
 obtain⟨f,fd,F,hm⟩:=T.d_all_turns;have S:FnScope ["spells"] ["spells"] (zg (top 26)):=⟨rfl,rfl,rfl,#[3],rfl,#[3],#[3]⟩
 refine⟨fun ds Q Q' E E' hQ hE h=>?_,⟨f,fd,fn3 F S (fun ds Q E h=>?_) (fun cdv A outer s H E E3 hE hr=>?_),F.binds fun _ _ _ _ _ _ us hl=>by obtain⟨_,rfl⟩:=ziJ hl;rfl,F.kp,hm⟩⟩
 . revert h;repeat' (first|exact fun h=>h|exact hQ _ _|exact hE _|refine Xl fun _=>?_|refine Xr ?_ ?_|refine forall_imp fun _=>?_)
 . obtain⟨_,rfl,_⟩:=h;rfl
 refine⟨_,(ze (zu (zq (JA rfl) rfl T.n_sum Jw (za (new3 (jP ["spell"] [] [] rfl (z0 (osc:=zg (top 26)) #[3]) rfl (zW (n3 0)) (fun g s H fp j=>⟨(zl (i:=0) (show((["spell"]:List Xk)++([]:List Xk)).Nodup by decide) rfl #[2]),jD,(at3 (n3 0) i3 (fun _ _=>rfl))⟩))) zb)))),fun r Q h=>?_⟩
 obtain⟨l,rfl,hz,q⟩:=h
 walk_at "rd"
 rw [YaR];refine⟨sz #[0],?_⟩
 refine jt (f:=false) dS (fun s=>.int s.1) (fun ρ=>∃ t,ρ = [t]) l ?_ _ _ _ _ ⟨none,rfl⟩ ?_
 . rintro s u ρ fa a K ⟨t,rfl⟩ k
   simp only [seq3,next3,set3,own3,ret3,ifS3,tt3,o3,u3,v3,atV,asS,asB,asD,optP,asT,asLd,asL,atO,J3,nilP,asId,asI,k3,nw3,add3,int3,int0,neg3,eq3,ne3,eqOk,eqv3,isN3,notN3,isNone,ix3,ixD,ZO,nil3,Za,cb3,len3,lenD,abs3,max23,min23,sum3,max3,and3,or3,not3,ch3,tup3,lst3,zam,slL3,no3,zaj,ZQ,asg3,gn3,Zl,ZE,gnil3,app3,put3,frzS,frz,frz1,for3,itL,itT,itZ,rg1,rg2,Jo,true3,cst3,Zy,jR,shs,Cl.d,Cl.dat,Cl.f,za6,zt,XT,X4,XG,XQ,XY,XZ,XH,YJ,Wbk,Wbi,Wbf,Wbl,Wbh,Wbw,Wbv,Ya1,Wbx,Xq,Xz,Ym,Yn,Wbs,Xb,Xf,Xc,Yao,XC,Xx,Xg,Xh,WaR,Cl.sh.injEq,Cl.ow.injEq,Wa1,WaS,Wa2,WaT,WaH,Wa8,reduceCtorEq,and_assoc,and_true,true_and,and_self,exists_eq_left,exists_eq_left',exists_eq',exists_eq_right,exists_eq_right',exists_and_left,exists_const,exists_false,false_and,and_false,or_false,false_or,or_true,true_or,decide_true,decide_false,decide_eq_true_eq,Wbj,Wbc,WaF,WaI,if_true,if_false,ite_true,ite_false,WaJ,decide_eq_false_iff_not,eq_self_iff_true,not_true_eq_false,not_false_eq_true,sz0,sz1,sz2,sz3,sz4,par3,aug3,idx3,ext3,itE,k3f,zaf,put2,app2,ix2,Cl.tr.injEq,zav,ZY,Cl.dt.injEq,slT3,intB3,frzD,itD,ZX,zau,ZI,ZC,Cl.fd.injEq,zap,ZG,dms,jm,argC,JI,Jd,finM,Cl.dm.injEq,holds,updM,JL,Zg,Zx,ZU,Zt,ZB,ZS,zaC,Zh,ZL,zaA,srtL,ninT3,Zs,Xo,XJ,Zw,Z0,zaw,zax,ZV,ZZ,zac,zad,Z6,ZD,zab,Z1,Zb,zah,Zr,zay,Z5,zaD,Zo,Zv,ZK,ZA,Z2,zai,Zn,zat,zar,Zi,zaa,ZT,Zk,Zp,zaq,Zj,Zz,Zf,JX,Zm,ZJ,Zc,Jt,dSs,dS,dI,zt,dQ,dP,dPs,jJ,dW,atI0,atI1,atI2,atI3,dRs,dRl,JP,lE,fE,hE37,atI0]
   exact k _ ⟨_,rfl⟩
 . walk_at "rd"
   refine⟨l.map (fun s:Spell=>s.1),?_,q⟩
   rw [<-jX (l.map (fun s:Spell=>s.1)),YaD]
   rfl
theorem zla(T:Txt c K mg):dd_check_spells c P w K mg base:=by
 have znU:dd_check_weights c P w K mg base:=zlZ T;have znR:dd_all_turns P w K mg base:=zmP T;obtain⟨f,fd,F,hm⟩:=T.d_check_spells;have S:FnScope ["spells", "turns", "weights"] ["spells"] (zg (top 27)):=⟨rfl,rfl,rfl,#[3],rfl,#[3],#[3]⟩
 refine⟨fun ds Q Q' E E' hQ hE h=>?_,⟨f,fd,fn3 F S (fun ds Q E h=>?_) (fun cdv A outer s H E E3 hE hr=>?_),F.binds fun _ _ _ _ _ _ us hl=>by obtain⟨_,rfl⟩:=ziJ hl;rfl,F.kp,hm⟩⟩
 . revert h;repeat' (first|exact fun h=>h|exact hQ _ _|exact hE _|refine Xl fun _=>?_|refine Xr ?_ ?_|refine forall_imp fun _=>?_)
 . obtain⟨_,rfl,_⟩:=h;rfl
 refine⟨_,(zd (s_if (ZP (za4 Jp Jp i3 (zq zH rfl T.n_len zC (za (n3 0) zb)) (g3i rfl T.m_MOST_SPELLS))) (ze (jo hE jv rfl rfl T.m_NoSpell T.e_NoSpell (za s3 zb))) zw)
  (zd (zy WaP rfl (zW (n3 0)) (jk (n:=2) rfl (zA (zl (i:=1) S.nd rfl #[2]) (zA (zl (i:=2) S.nd rfl #[2]) jj))) (zd (s_if (zr Jh (n3 1) i3 (nomark _)) (ze (jo hE jv rfl rfl T.m_NoSpell T.e_NoSpell (za s3 zb))) zw)
   (zd (Z4 (df3 hE znU (hr.mono #[1]) rfl zp (za (n3 2) zb)))
   (ze (s_if (zr (Jm hr.units) (zq zH rfl T.n_len zC (za (n3 2) zb)) (zq zH rfl T.n_len zC (za (at3 (at3 (n3 0) i3 (fun _ _=>rfl)) i3 (fun _ _=>rfl)) zb)) (nomark _)) (ze (jo hE jv rfl rfl T.m_NoSpell T.e_NoSpell (za s3 zb))) zw)))))
  (ze (s_if (zr JB (df3 hE znR (hr.mono #[1]) rfl zp (za (n3 0) zb)) (g3i rfl T.m_MOST_TURNS) (nomark _)) (ze (jo hE jv rfl rfl T.m_NoSpell T.e_NoSpell (za s3 zb))) zw)))),fun ds Q h=>?_⟩
 obtain⟨l,rfl,q,p⟩:=h
 walk_at "rd"
 simp only [YaR]
 by_cases B:1<=(l.length:Int)
 case neg=>rw [if_neg B];exact p fun z=>B (by have:=z.1.1;omega)
 rw [if_pos B]
 by_cases H:(l.length:Int)<=8
 case neg=>rw [if_pos H];exact p fun z=>H (by have:=z.1.2;omega)
 rw [if_neg (fun z=>z H)]
 have hd0:atI (l.map dS) 0=some (dS (l.headD (0,[]))):=by
  cases l with
  | nil=>simp at B
  | cons a r=>exact atI0
 refine zaB (fun ds ρ=>∃ b t u,ds=b.map dS/\ρ = [some (.sh false (.list (l.map dS))),t,u]/\(∀ w∈b,w∈l)/\∀ w∈l,w∈b\/(1<=w.1/\okW w.2/\w.2.length=many l)) ?_ ?_ _ _ ⟨l,none,none,rfl,rfl,fun _ h=>h,fun _ h=>.inl h⟩
 . rintro d ds ρ ⟨b,t,u,e,rfl,hin,s⟩ W M
   cases b with
   | nil=>cases e
   | cons w b=>
    cases e;have A:=hin w YaV
    walk_at "rd"
    by_cases h3:w.1<1
    . rw [if_pos h3];exact p fun z=>by have:=(z.2.1 w A).1;omega
    rw [if_neg h3];refine⟨w.2,rfl,fun hok=>?_,fun L=>p fun z=>L (z.2.1 w A).2.1⟩
    simp only [seq3,next3,set3,own3,ret3,ifS3,tt3,o3,u3,v3,atV,asS,asB,asD,optP,asT,asLd,asL,atO,J3,nilP,asId,asI,k3,nw3,add3,int3,int0,neg3,eq3,ne3,eqOk,eqv3,isN3,notN3,isNone,ix3,ixD,ZO,nil3,Za,cb3,len3,lenD,abs3,max23,min23,sum3,max3,and3,or3,not3,ch3,tup3,lst3,zam,slL3,no3,zaj,ZQ,asg3,gn3,Zl,ZE,gnil3,app3,put3,frzS,frz,frz1,for3,itL,itT,itZ,rg1,rg2,Jo,true3,cst3,Zy,jR,shs,Cl.d,Cl.dat,Cl.f,za6,zt,XT,X4,XG,XQ,XY,XZ,XH,YJ,Wbk,Wbi,Wbf,Wbl,Wbh,Wbw,Wbv,Ya1,Wbx,Xq,Xz,Ym,Yn,Wbs,Xb,Xf,Xc,Yao,XC,Xx,Xg,Xh,WaR,Cl.sh.injEq,Cl.ow.injEq,Wa1,WaS,Wa2,WaT,WaH,Wa8,reduceCtorEq,and_assoc,and_true,true_and,and_self,exists_eq_left,exists_eq_left',exists_eq',exists_eq_right,exists_eq_right',exists_and_left,exists_const,exists_false,false_and,and_false,or_false,false_or,or_true,true_or,decide_true,decide_false,decide_eq_true_eq,Wbj,Wbc,WaF,WaI,if_true,if_false,ite_true,ite_false,WaJ,decide_eq_false_iff_not,eq_self_iff_true,not_true_eq_false,not_false_eq_true,sz0,sz1,sz2,sz3,sz4,par3,aug3,idx3,ext3,itE,k3f,zaf,put2,app2,ix2,Cl.tr.injEq,zav,ZY,Cl.dt.injEq,slT3,intB3,frzD,itD,ZX,zau,ZI,ZC,Cl.fd.injEq,zap,ZG,dms,jm,argC,JI,Jd,finM,Cl.dm.injEq,holds,updM,JL,Zg,Zx,ZU,Zt,ZB,ZS,zaC,Zh,ZL,zaA,srtL,ninT3,Zs,Xo,XJ,Zw,Z0,zaw,zax,ZV,ZZ,zac,zad,Z6,ZD,zab,Z1,Zb,zah,Zr,zay,Z5,zaD,Zo,Zv,ZK,ZA,Z2,zai,Zn,zat,zar,Zi,zaa,ZT,Zk,Zp,zaq,Zj,Zz,Zf,JX,Zm,ZJ,Zc,Jt,dSs,dS,dI,zt,dQ,dP,dPs,jJ,dW,atI0,atI1,atI2,atI3,dRs,dRl,JP,lE,fE,hE37,atI0,atI1,hd0,YaR]
    by_cases G:(w.2.length:Int)=(l.headD (0,[])).2.length
    . rw [if_neg (fun z=>z G)]
      refine M _ ⟨b,_,_,rfl,rfl,fun x hx=>hin x (YaT _ hx),fun x hx=>?_⟩
      rcases s x hx with z|z
      . rcases Wbe.mp z with rfl|z
        . exact .inr ⟨#[0],hok,by unfold many;omega⟩
        . exact .inl z
      . exact .inr z
    . rw [if_pos G]
      exact p fun z=>G (by have:=(z.2.1 w A).2.2;unfold many at this;omega)
 . rintro ρ ⟨b,t,u,e,rfl,hin,s⟩
   cases b with
   | cons _ _=>cases e
   | nil=>
    walk_at "rd"
    refine⟨l,rfl,#[0],?_⟩
    by_cases h3:60<tot l
    . rw [if_pos h3];exact p fun z=>by have:=z.2.2;omega
    . rw [if_neg h3]
      exact q ⟨⟨#[0],#[0]⟩,fun w A=>(s w A).resolve_left (by simp),#[0]⟩
theorem zg8(T:Txt c K mg):dd_common_divisor P w K mg base:=by
 obtain⟨f,fd,F,hm⟩:=T.d_common_divisor;have S:FnScope ["one", "other", "greater", "lesser", "rest"] ["one", "other"] (zg (top 7)):=⟨rfl,rfl,rfl,#[3],rfl,#[3],#[3]⟩
 refine⟨fun ds Q Q' E E' hQ hE h=>?_,⟨f,fd,fn3 F S (fun ds Q E h=>?_) (fun cdv A outer s H E E3 hE hr=>?_),F.binds fun _ _ _ _ _ _ us hl=>by obtain⟨_,_,rfl⟩:=zaW hl;rfl,F.kp,hm⟩⟩
 . revert h;repeat' (first|exact fun h=>h|exact hQ _ _|exact hE _|refine Xl fun _=>?_|refine Xr ?_ ?_|refine forall_imp fun _=>?_)
 . obtain⟨_,_,rfl,_⟩:=h;rfl
 refine⟨_,(zd ((zk (i:=2) S.nd rfl #[2]) (zq zds rfl T.n_abs zcN (za (n3 0) zb)))
  (zd ((zk (i:=3) S.nd rfl #[2]) (zq zds rfl T.n_abs zcN (za (n3 1) zb)))
  (zd (zaJ WaP (zr (Jm hr.units) (n3 3) i3 (nomark _)) (zd ((zk (i:=4) S.nd rfl #[2]) (op3 zS (n3 2) (n3 3)))
   (zd ((zk (i:=2) S.nd rfl #[2]) (n3 3))
   (ze ((zk (i:=3) S.nd rfl #[2]) (n3 4))))))
  (ze (zu (n3 2)))))),fun C Q h=>?_⟩
 obtain⟨a,b,rfl,q⟩:=h
 walk_at "rd"
 refine⟨_,ZN (fun n ρ=>∃ g l r,ρ = [some (.sh true (.int a)),some (.sh true (.int b)),some (.sh true (.int g)),some (.sh true (.int l)),r]/\0<=g/\0<=l/\Xp g l=Xp a b/\n=l.toNat) ?_ _ _ ⟨_,_,_,rfl,by split<;>omega,by split<;>omega,zed a b,rfl⟩⟩
 rintro n ρ ⟨g,l,r,rfl,hg,v,hG,rfl⟩ W hW
 walk_at "rd"
 by_cases e:l=0
 . rw [if_neg (fun z=>z e)]
   subst e;rw [<-hG,zfK hg] at q;exact q
 . rw [if_pos e]
   have j:0<l:=#[0]
   have u:=Ybc g e;have B:=Ybd g j;exact⟨j,hW (g%l).toNat _ #[0] ⟨l,g%l,_,rfl,v,u,(zgA hg j).trans hG,rfl⟩⟩
theorem zkI(T:Txt c K mg):dd_divisor_of_all P w K mg base:=by
 have znV:dd_common_divisor P w K mg base:=zg8 T;obtain⟨f,fd,F,hm⟩:=T.d_divisor_of_all;have S:FnScope ["weights", "divisor", "weight"] ["weights"] (zg (top 28)):=⟨rfl,rfl,rfl,#[3],rfl,#[3],#[3]⟩
 refine⟨fun ds Q Q' E E' hQ hE h=>?_,⟨f,fd,fn3 F S (fun ds Q E h=>?_) (fun cdv A outer s H E E3 hE hr=>?_),F.binds fun _ _ _ _ _ _ us hl=>by obtain⟨_,rfl⟩:=ziJ hl;rfl,F.kp,hm⟩⟩
 . revert h;repeat' (first|exact fun h=>h|exact hQ _ _|exact hE _|refine Xl fun _=>?_|refine Xr ?_ ?_|refine forall_imp fun _=>?_)
 . obtain⟨_,rfl,_⟩:=h;rfl
 refine⟨_,(zd ((zk (i:=1) S.nd rfl #[2]) i3)
  (zd (zy WaP rfl (zW (n3 0)) (zl (i:=2) S.nd rfl #[2]) (ze ((zk (i:=1) S.nd rfl #[2]) (df3 hE znV (hr.mono #[1]) rfl zp (za (n3 1) (za (n3 2) zb))))))
  (ze (zu (n3 1))))),fun ds Q h=>?_⟩
 obtain⟨n,rfl,q⟩:=h
 walk_at "rd"
 refine zaB (fun ds ρ=>∃ g b t,ds=b.map Xa/\n=g++b/\ρ = [some (.sh false (.list (n.map .int))),some (.sh true (.int (gcdL g))),t]) ?_ ?_ _ _ ⟨[],n,none,rfl,rfl,rfl⟩
 . rintro d ds ρ ⟨g,b,t,e,hws,rfl⟩ W p
   cases b with
   | nil=>cases e
   | cons w b=>
    cases e
    walk_at "rd"
    exact p _ ⟨g++[w],b,_,rfl,by rw [hws,Yag];rfl,by unfold gcdL;rw [WaN];rfl⟩
 . rintro ρ ⟨g,b,t,e,hws,rfl⟩
   cases b with
   | cons _ _=>cases e
   | nil=>
    walk_at "rd"
    rw [Yao] at hws;subst hws;exact q
theorem zlo(T:Txt c K mg):dd_least_bottom P w K mg base:=by
 have j:dd_divisor_of_all P w K mg base:=zkI T;have znV:dd_common_divisor P w K mg base:=zg8 T;obtain⟨f,fd,F,hm⟩:=T.d_least_bottom;have S:FnScope ["spells", "bottom", "spell", "parts"] ["spells"] (zg (top 29)):=⟨rfl,rfl,rfl,#[3],rfl,#[3],#[3]⟩
 refine⟨fun ds Q Q' E E' hQ hE h=>?_,⟨f,fd,fn3 F S (fun ds Q E h=>?_) (fun cdv A outer s H E E3 hE hr=>?_),F.binds fun _ _ _ _ _ _ us hl=>by obtain⟨_,rfl⟩:=ziJ hl;rfl,F.kp,hm⟩⟩
 . revert h;repeat' (first|exact fun h=>h|exact hQ _ _|exact hE _|refine Xl fun _=>?_|refine Xr ?_ ?_|refine forall_imp fun _=>?_)
 . obtain⟨_,rfl,_⟩:=h;rfl
 refine⟨_,(zd ((zk (i:=1) S.nd rfl #[2]) i3)
  (zd (zy WaP rfl (zW (n3 0)) (zl (i:=2) S.nd rfl #[2]) (zd ((zk (i:=3) S.nd rfl #[2]) (op3 zK (zq (JA rfl) rfl T.n_sum Jw (za (at3 (n3 2) i3 (fun _ _=>rfl)) zb)) (df3 hE j (hr.mono #[1]) rfl zp (za (at3 (n3 2) i3 (fun _ _=>rfl)) zb))))
   (ze ((zk (i:=1) S.nd rfl #[2]) (op3 zK (op3 zX (n3 1) (n3 3)) (df3 hE znV (hr.mono #[1]) rfl zp (za (n3 1) (za (n3 3) zb))))))))
  (ze (zu (n3 1))))),fun A Q h=>?_⟩
 obtain⟨l,rfl,v,q⟩:=h
 walk_at "rd"
 refine zaB (fun A ρ=>∃ done rest t u,A=rest.map dS/\l=done++rest/\ρ = [some (.sh false (.list (l.map dS))),some (.sh true (.int (bot done))),t,u]) ?_ ?_ _ _ ⟨[],l,none,none,rfl,rfl,rfl⟩
 . rintro d A ρ ⟨done,rest,t,u,e,r,rfl⟩ W hW
   cases rest with
   | nil=>cases e
   | cons w rest=>
    cases e;have G:w∈l:=by rw [r];simp
    have g:=(v.2.1 w G).2.1;have hdone:0<bot done/\Bits (1+103*done.length) (bot done):=zbr done 1 1 (fun s H=>(v.2.1 s (by rw [r];exact Yai _ H)).2.1) #[1] (by unfold Bits;decide)
    have B:done.length<=8:=by have:=v.1.2;rw [r,YaS] at this;lia
    have hb:Bits 900 (bot done):=hdone.2.mono #[94]
    simp only [seq3,next3,set3,own3,ret3,ifS3,tt3,o3,u3,v3,atV,asS,asB,asD,optP,asT,asLd,asL,atO,J3,nilP,asId,asI,k3,nw3,add3,int3,int0,neg3,eq3,ne3,eqOk,eqv3,isN3,notN3,isNone,ix3,ixD,ZO,nil3,Za,cb3,len3,lenD,abs3,max23,min23,sum3,max3,and3,or3,not3,ch3,tup3,lst3,zam,slL3,no3,zaj,ZQ,asg3,gn3,Zl,ZE,gnil3,app3,put3,frzS,frz,frz1,for3,itL,itT,itZ,rg1,rg2,Jo,true3,cst3,Zy,jR,shs,Cl.d,Cl.dat,Cl.f,za6,zt,XT,X4,XG,XQ,XY,XZ,XH,YJ,Wbk,Wbi,Wbf,Wbl,Wbh,Wbw,Wbv,Ya1,Wbx,Xq,Xz,Ym,Yn,Wbs,Xb,Xf,Xc,Yao,XC,Xx,Xg,Xh,WaR,Cl.sh.injEq,Cl.ow.injEq,Wa1,WaS,Wa2,WaT,WaH,Wa8,reduceCtorEq,and_assoc,and_true,true_and,and_self,exists_eq_left,exists_eq_left',exists_eq',exists_eq_right,exists_eq_right',exists_and_left,exists_const,exists_false,false_and,and_false,or_false,false_or,or_true,true_or,decide_true,decide_false,decide_eq_true_eq,Wbj,Wbc,WaF,WaI,if_true,if_false,ite_true,ite_false,WaJ,decide_eq_false_iff_not,eq_self_iff_true,not_true_eq_false,not_false_eq_true,sz0,sz1,sz2,sz3,sz4,par3,aug3,idx3,ext3,itE,k3f,zaf,put2,app2,ix2,Cl.tr.injEq,zav,ZY,Cl.dt.injEq,slT3,intB3,frzD,itD,ZX,zau,ZI,ZC,Cl.fd.injEq,zap,ZG,dms,jm,argC,JI,Jd,finM,Cl.dm.injEq,holds,updM,JL,Zg,Zx,ZU,Zt,ZB,ZS,zaC,Zh,ZL,zaA,srtL,ninT3,Zs,Xo,XJ,Zw,Z0,zaw,zax,ZV,ZZ,zac,zad,Z6,ZD,zab,Z1,Zb,zah,Zr,zay,Z5,zaD,Zo,Zv,ZK,ZA,Z2,zai,Zn,zat,zar,Zi,zaa,ZT,Zk,Zp,zaq,Zj,Zz,Zf,JX,Zm,ZJ,Zc,Jt,dSs,dS,dI,zt,dQ,dP,dPs,jJ,dW,atI0,atI1,atI2,atI3,dRs,dRl,JP,lE,fE,hE37,atI0,atI1]
    refine⟨w.2,jX _,w.2,rfl,⟨zcL g,((ZH g).le (by have:=zmf g;have:=zcL g;lia)).mono #[1]⟩,?_⟩
    have hgb:Bits 9000 (Xp (bot done) (parts w.2):Int):=((zdD g).le (by have:=zns (b:=bot done) (JO g);have:=zfD (b:=bot done) (JO g);have:=JO g;lia)).mono #[1]
    refine⟨hb.mulOk (zdD g) #[1],⟨zfD (JO g),hgb⟩,?_⟩
    exact hW _ ⟨done++[w],rest,_,_,rfl,by rw [r,Yag];rfl,by unfold bot;rw [WaN];rfl⟩
 . intro ρ N;refine Hd fun k O=>?_;obtain⟨done,rest,t,u,e,r,rfl⟩:=N;apply O
   cases rest with
   | cons _ _=>cases e
   | nil=>
    walk_at "rd"
    rw [Yao] at r;subst r;exact q
theorem zjM(T:Txt c K mg):dd_shares_over P w K mg base:=by
 obtain⟨f,fd,F,hm⟩:=T.d_shares_over;have S:FnScope ["bottom", "weights", "total"] ["bottom", "weights"] (zg (top 30)):=⟨rfl,rfl,rfl,#[3],rfl,#[3],#[3]⟩
 refine⟨fun ds Q Q' E E' hQ hE h=>?_,⟨f,fd,fn3 F S (fun ds Q E h=>?_) (fun cdv A outer s H E E3 hE hr=>?_),F.binds fun _ _ _ _ _ _ us hl=>by obtain⟨_,_,rfl⟩:=zaW hl;rfl,F.kp,hm⟩⟩
 . revert h;repeat' (first|exact fun h=>h|exact hQ _ _|exact hE _|refine Xl fun _=>?_|refine Xr ?_ ?_|refine forall_imp fun _=>?_)
 . obtain⟨_,_,rfl,_⟩:=h;rfl
 refine⟨_,(zd ((zk (i:=2) S.nd rfl #[2]) (zq (JA rfl) rfl T.n_sum Jw (za (n3 1) zb)))
  (ze (zu (new3 (jP ["weight"] ["bottom", "total"] [0,2] rfl (z0 (osc:=zg (top 30)) #[3]) rfl (zW (n3 1)) (fun y s H u z=>⟨(zl (i:=0) (show((["weight"]:List Xk)++(["bottom", "total"]:List Xk)).Nodup by decide) rfl #[2]),jD,(op3 zK (op3 zX (n3 0) (n3 1)) (n3 2))⟩)))))),fun A Q h=>?_⟩
 obtain⟨b,ws,rfl,a,l,q⟩:=h
 walk_at "rd"
 refine⟨ws,jX _,?_⟩
 refine⟨sz (by rw [YaR];have:=a.1.2;omega),?_⟩
 refine jt (f:=false) Xa (fun w=>.int (w*b/ws.sum)) (fun ρ=>∃ t,ρ = [t,some (.sh true (.int b)),some (.sh true (.int ws.sum))]) ws ?_ _ _ _ _ ⟨none,rfl⟩ ?_
 . rintro w hw ρ p g K ⟨t,rfl⟩ k
   have j:IntMulOk w b:=(zgF a hw).mulOk l #[1]
   have r:jY (w*b) ws.sum:=⟨jK a,(ZH a).mono #[1]⟩
   show IntMulOk w b/\jY (w*b) ws.sum/\K (p&&true) (g++[.int (w*b/ws.sum)]) [some (.sh true (.int w)),some (.sh true (.int b)),some (.sh true (.int ws.sum))]
   rw [Wbk];exact⟨j,r,k _ ⟨_,rfl⟩⟩
 . unfold dI shares at q
   rw [YaD] at q;exact q
theorem zii(T:Txt c K mg):dd_quotas c P w K mg base:=by
 have znS:dd_check_spells c P w K mg base:=zla T;have j:dd_least_bottom P w K mg base:=zlo T;have zn5:dd_shares_over P w K mg base:=zjM T;obtain⟨f,fd,F,hm⟩:=T.d_quotas;have S:FnScope ["spells", "bottom", "latest", "told", "turns", "weights", "shares", "turn"] ["spells"] (zg zbA):=⟨rfl,rfl,rfl,#[3],rfl,#[3],#[3]⟩
 refine⟨fun ds Q Q' E E' hQ hE h=>?_,⟨f,fd,fn3 F S (fun ds Q E h=>?_) (fun cdv A outer s H E E3 hE hr=>?_),F.binds fun _ _ _ _ _ _ us hl=>by obtain⟨_,rfl⟩:=ziJ hl;rfl,F.kp,hm⟩⟩
 . revert h;repeat' (first|exact fun h=>h|exact hQ _ _|exact hE _|refine Xl fun _=>?_|refine Xr ?_ ?_|refine forall_imp fun _=>?_)
 . obtain⟨_,rfl,_⟩:=h;rfl
 refine⟨_,(zd (Z4 (df3 hE znS (hr.mono #[1]) rfl zp (za (n3 0) zb)))
  (zd ((zk (i:=1) S.nd rfl #[2]) (df3 hE j (hr.mono #[1]) rfl zp (za (n3 0) zb)))
  (zd ((zcl (i:=2) S.nd rfl #[2]) ["weight"] [] [] rfl (z0 (osc:=zg zbA) #[3]) rfl (zW (at3 (at3 (n3 0) i3 (fun _ _=>rfl)) i3 (fun _ _=>rfl))) (fun H0 s H fp cl=>⟨(zl (i:=0) (show((["weight"]:List Xk)++([]:List Xk)).Nodup by decide) rfl #[2]),jD,i3⟩))
  (zd ((jq (i:=3) S.nd rfl #[2]) (jg (za (n3 2) zb)))
  (zd (zy WaP rfl (zW (n3 0)) (jk (n:=2) rfl (zA (zl (i:=4) S.nd rfl #[2]) (zA (zl (i:=5) S.nd rfl #[2]) jj))) (zd ((zk (i:=6) S.nd rfl #[2]) (df3 hE zn5 (hr.mono #[1]) rfl zp (za (n3 1) (za (n3 5) zb))))
   (ze (zy WaP rfl (jh rfl T.n_range (za (n3 4) zb)) (zl (i:=7) S.nd rfl #[2]) (zd ((zcl (i:=2) S.nd rfl #[2]) ["quota", "share"] [] [] rfl (z0 (osc:=zg zbA) #[3]) rfl (zmi rfl T.n_zip (za (n3 2) (za (n3 6) zb))) (fun H0 s H fp cl=>⟨(jk (n:=2) rfl (zA (zl (i:=0) (show((["quota", "share"]:List Xk)++([]:List Xk)).Nodup by decide) rfl #[2]) (zA (zl (i:=1) (show((["quota", "share"]:List Xk)++([]:List Xk)).Nodup by decide) rfl #[2]) jj))),jD,(op3 zU (n3 0) (n3 1))⟩))
    (ze (jF (i:=3) rfl #[2] (n3 2))))))))
  (ze (jA [3] (zu (zZ (za (n3 1) (za (n3 3) zb))))))))))),fun Z Q h=>?_⟩
 obtain⟨l,rfl,q,hE'⟩:=h;refine zj fun N C=>?_
 walk_at "rd"
 refine⟨l,rfl,fun B=>C _ ?_,hE'⟩
 clear C N;have O:l≠[]:=fun z=>by have:=B.1.1;rw [z] at this;simp at this
 have hd0:atI (l.map dS) 0=some (dS (l.headD (0,[]))):=by
  cases l with
  | nil=>exact absurd rfl O
  | cons a r=>exact atI0
 have hmany:many l<=8:=by
  cases l with
  | nil=>exact absurd rfl O
  | cons a r=>exact(B.2.1 a YaV).2.1.1.2
 refine zj fun N C=>?_
 walk_at "rd"
 refine⟨l,rfl,B,C _ ?_⟩
 clear C N;refine zj fun N C=>?_
 walk_at "rd hd0 atI1 YaR"
 refine⟨sz (by unfold many at hmany;lia),?_⟩
 refine jt Xa (fun _=>.int 0) (fun ρ=>∃ t,ρ = [t]) (l.headD (0,[])).2 ?_ _ _ _ _ ⟨none,rfl⟩ ?_
 . rintro w R ρ fa Y K ⟨t,rfl⟩ k
   walk_at "rd"
   exact k _ ⟨_,rfl⟩
 have hz:(l.headD (0,[])).2.map (fun _=>Xa 0)=(zeros l).map .int:=by
  unfold zeros many;rw [Yaz,Wa9]
 rw [Xc,hz];refine C _ ?_;clear C N;refine zj fun N C=>?_
 walk_at "rd"
 refine C _ ?_
 clear C N
 walk_at "rd"
 refine zaB (fun Z ρ=>∃ done g t u v w,Z=g.map dS/\l=done++g/\ρ = [some (.sh false (.list (l.map dS))),some (.sh true (.int (bot l))),some (.sh true (dI (runQ (bot l) done (zeros l,[zeros l])).1)),some (.ow true ((runQ (bot l) done (zeros l,[zeros l])).2.map dI)),t,u,v,w]/\(runQ (bot l) done (zeros l,[zeros l])).2.length<=1+(tot done).toNat) ?_ ?_ _ _ ⟨[],l,none,none,none,none,rfl,rfl,rfl,by simp [runQ]⟩
 . rintro d Z ρ ⟨done,g,t,u,v,w',e,I,rfl,J⟩ W hW
   cases g with
   | nil=>cases e
   | cons w g=>
    cases e;have R:w∈l:=by rw [I];simp
    have hwok:=(B.2.1 w R).2.1;have h1t:∀ s∈l,1<=s.1:=fun s hs=>(B.2.1 s hs).1
    have a6:=zeM h1t R;have a7:=h1t w R;have hdt:tot done<=60 - w.1:=by
     have h60:=B.2.2;have e:tot l=tot done+(w.1+tot g):=by unfold tot;rw [I,Ya2,Wa7,Ya1,XA]
     have:0<=tot g:=jM fun s hs=>h1t s (by rw [I];exact Yaa _ (YaT _ hs))
     lia
    have a2:0<=tot done:=jM fun s hs=>h1t s (by rw [I];exact Yai _ hs)
    walk_at "rd"
    refine⟨w.2,rfl,hwok,(zeg B).mono #[1],#[94],by have:=B.2.2;lia,?_⟩
    generalize hp:runQ (bot l) done (zeros l,[zeros l])=p at J ⊢;refine ja (fun k ρ=>∃ t,ρ = [some (.sh false (.list (l.map dS))),some (.sh true (.int (bot l))),some (.sh true (dI (rep (zE (shares (bot l) w.2)) k p).1)),some (.ow true ((rep (zE (shares (bot l) w.2)) k p).2.map dI)),some (.sh true (.int w.1)),some (.sh false (dI w.2)),some (.sh true (dI (shares (bot l) w.2))),t]) ?_ ?_ ⟨w',rfl⟩
    . rintro k ρ hk ⟨t,rfl⟩ W' hW'
      have hr:∀ k p,rep (zE (shares (bot l) w.2)) (k+1) p=zE (shares (bot l) w.2) (rep (zE (shares (bot l) w.2)) k p):=fun k=>by
       induction k with
       | zero=>intro p;rfl
       | succ k ih=>intro p;rw [rep,ih];rfl
      have a3:=zbm (shares (bot l) w.2) k p
      walk_at "rd"
      rw [zg9,YaR];refine⟨sz (by rw [Wk];unfold shares;rw [YaR];have:=hwok.1.2;lia),?_⟩
      refine jt _ (fun p=>.int (p.1+p.2)) (fun ρ=>∃ t u,ρ = [t,u]) _ ?_ _ _ _ _ ⟨none,none,rfl⟩ ?_
      . rintro x hx ρ fa Y K ⟨t,u,rfl⟩ k
        walk_at "rd"
        exact k _ ⟨_,_,rfl⟩
      . walk_at "rd"
        rw [YaR];refine⟨YaU (show _<1000000 by lia) #[1],hW' _ ⟨?w,?h⟩⟩
        case h=>
        rw [hr];unfold zE addL dI;simp only [Ya2,Ya1,Wbx,YaD,Xc]
        rfl
    . rintro ρ ⟨t,rfl⟩
      have er:runQ (bot l) (done++[w]) (zeros l,[zeros l])=rep (zE (shares (bot l) w.2)) w.1.toNat p:=by
       unfold runQ at hp ⊢;rw [WaN,hp];rfl
      have et:tot (done++[w])=tot done+w.1:=by unfold tot;rw [Ya2,Wa7];simp
      refine hW _ ⟨done++[w],g,some (.sh true (.int w.1)),some (.sh false (dI w.2)),some (.sh true (dI (shares (bot l) w.2))),t,rfl,by rw [I,Yag];rfl,by rw [er],?_⟩
      rw [er,zbm,et];lia
 . intro ρ V;refine Hd fun G y=>?_;obtain⟨done,g,t,u,v,w,e,I,rfl,J⟩:=V;apply y
   cases g with
   | cons _ _=>cases e
   | nil=>
    walk_at "rd"
    rw [Yao] at I;subst I;exact q B
theorem zjr(T:Txt c K mg):dd_first_turn P w K mg base:=by
 obtain⟨f,fd,F,hm⟩:=T.d_first_turn;have S:FnScope ["path", "wanted", "turn"] ["path", "wanted"] (zg (top 33)):=⟨rfl,rfl,rfl,#[3],rfl,#[3],#[3]⟩
 refine⟨fun ds Q Q' E E' hQ hE h=>?_,⟨f,fd,fn3 F S (fun ds Q E h=>?_) (fun cdv A outer s H E E3 hE hr=>?_),F.binds fun _ _ _ _ _ _ us hl=>by obtain⟨_,_,rfl⟩:=zaW hl;rfl,F.kp,hm⟩⟩
 . revert h;repeat' (first|exact fun h=>h|exact hQ _ _|exact hE _|refine Xl fun _=>?_|refine Xr ?_ ?_|refine forall_imp fun _=>?_)
 . obtain⟨_,_,rfl,_⟩:=h;rfl
 refine⟨_,(zd (zy WaP rfl (Z8 rfl T.n_range (za i3 (za (zq zH rfl T.n_len zC (za (n3 0) zb)) zb))) (zl (i:=2) S.nd rfl #[2]) (ze (s_if (zr ze3 (at3 (n3 0) (n3 2) (fun _ _=>rfl)) (n3 1) (nomark _)) (ze (zu (n3 2))) zw)))
  (ze (zu (zq zH rfl T.n_len zC (za (n3 0) zb))))),fun A Q h=>?_⟩
 obtain⟨path,x,rfl,h61,l,q⟩:=h
 walk_at "rd"
 rw [YaR];refine⟨#[1],#[1],#[94],#[94],?_⟩
 have s:((path.length:Int) - 1).toNat=path.length - 1:=#[94]
 rw [s];refine ja (lo:=1) (fun k ρ=>∃ t,ρ = [some (.sh false (.list (path.map .int))),some (.sh true (.int x)),t]/\∀ i,1<=i->i<1+k->¬x<=path.getD i 0) ?_ ?_ ⟨none,rfl,fun i l h2=>absurd h2 #[94]⟩
 . rintro k ρ hk ⟨t,rfl,hno⟩ W hW
   have hg:=jU (xs:=path) (i:=1+(k:Int)) #[94] #[94]
   rw [show(1+(k:Int)).toNat=1+k by lia] at hg
   walk_at "rd hg"
   by_cases h:x<=path.getD (1+k) 0
   . rw [if_pos h]
     have:zD path.length (fun t=>decide (x<=path.getD t 0))=1+k:=zfu l #[94] #[94] (fun t a b=>decide_eq_false (hno t a b)) fun _=>decide_eq_true h
     rw [this] at q;have e:((1+k:Nat):Int)=1+(k:Int):=#[94]
     rw [e] at q;exact q
   . rw [if_neg h]
     refine hW _ ⟨_,rfl,fun i a b=>?_⟩
     by_cases e:i=1+k
     . rw [e];exact h
     . exact hno i a #[94]
 . rintro ρ ⟨t,rfl,hno⟩
   walk_at "rd"
   rw [YaR];have:zD path.length (fun t=>decide (x<=path.getD t 0))=path.length:=zfu l l (YaY _) (fun t a b=>decide_eq_false (hno t a #[94])) fun z=>absurd z #[94]
   rw [this] at q;exact q
theorem zj6(T:Txt c K mg):dd_window_of P w K mg base:=by
 have znW:dd_first_turn P w K mg base:=zjr T;obtain⟨f,fd,F,hm⟩:=T.d_window_of;have S:FnScope ["bottom", "path", "j", "room", "opens", "last"] ["bottom", "path", "j", "room"] (zg (top 34)):=⟨rfl,rfl,rfl,#[3],rfl,#[3],#[3]⟩
 refine⟨fun ds Q Q' E E' hQ hE h=>?_,⟨f,fd,fn3 F S (fun ds Q E h=>?_) (fun cdv A outer s H E E3 hE hr=>?_),F.binds fun _ _ _ _ _ _ us hl=>by obtain⟨_,_,_,_,rfl⟩:=zaL hl;rfl,F.kp,hm⟩⟩
 . revert h;repeat' (first|exact fun h=>h|exact hQ _ _|exact hE _|refine Xl fun _=>?_|refine Xr ?_ ?_|refine forall_imp fun _=>?_)
 . obtain⟨_,_,_,_,rfl,_⟩:=h;rfl
 refine⟨_,(zd ((zk (i:=4) S.nd rfl #[2]) (df3 hE znW (hr.mono #[1]) rfl zp (za (n3 1) (za (op3 jT (op3 zX (n3 2) (n3 0)) (at3 (n3 3) i3 (fun _ _=>rfl))) zb))))
  (zd ((zk (i:=5) S.nd rfl #[2]) (df3 hE znW (hr.mono #[1]) rfl zp (za (n3 1) (za (op3 zU (op3 zU (op3 zX (op3 jT (n3 2) i3) (n3 0)) (at3 (n3 3) i3 (fun _ _=>rfl))) i3) zb))))
  (zd (s_if (zr (jn hr.units) (n3 5) (zq zH rfl T.n_len zC (za (n3 1) zb)) (nomark _)) (ze (zu (zZ (za (n3 4) (za non3 zb))))) zw)
  (ze (zu (zZ (za (n3 4) (za (n3 5) zb)))))))),fun ds Q h=>?_⟩
 refine Hd fun G k=>?_;obtain⟨b,path,j,room,rfl,l,h1,hb,s,q⟩:=h;apply k
 walk_at "rd atI0 atI1"
 have hj1:Bits 65 (j - 1):=s.sub (Bits.lit (x:=1) 64);refine⟨s.mulOk hb #[1],path,rfl,l,h1,hj1.mulOk hb #[1],path,rfl,l,h1,?_⟩
 rw [YaR];unfold winB winP at q;dsimp only at q
 by_cases h:zD path.length (fun t=>decide ((j - 1)*b+room.1+1<=path.getD t 0))=path.length
 . rw [if_pos (by rw [h])]
   rw [if_pos h] at q;exact q
 . rw [if_neg (fun z=>h #[94])]
   rw [if_neg h] at q;exact q
theorem znL(T:Txt c K mg):dd_windows_of_clan P w K mg base:=by
 have g:dd_window_of P w K mg base:=zj6 T;obtain⟨f,fd,F,hm⟩:=T.d_windows_of_clan;have S:FnScope ["told", "clan", "room", "path", "found", "j", "window"] ["told", "clan", "room"] (zg (top 35)):=⟨rfl,rfl,rfl,#[3],rfl,#[3],#[3]⟩
 refine⟨fun ds Q Q' E E' hQ hE h=>?_,⟨f,fd,fn3 F S (fun ds Q E h=>?_) (fun cdv A outer s H E E3 hE hr=>?_),F.binds fun _ _ _ _ _ _ us hl=>by obtain⟨_,_,_,rfl⟩:=zbf hl;rfl,F.kp,hm⟩⟩
 . revert h;repeat' (first|exact fun h=>h|exact hQ _ _|exact hE _|refine Xl fun _=>?_|refine Xr ?_ ?_|refine forall_imp fun _=>?_)
 . obtain⟨_,_,_,_,_,rfl,_⟩:=h;rfl
 refine⟨_,(zd ((zcl (i:=3) S.nd rfl #[2]) ["latest"] ["clan"] [1] rfl (z0 (osc:=zg (top 35)) #[3]) rfl (zW (at3 (n3 0) i3 (fun _ _=>rfl))) (fun H0 s H fp cl=>⟨(zl (i:=0) (show((["latest"]:List Xk)++(["clan"]:List Xk)).Nodup by decide) rfl #[2]),jD,(at3 (n3 0) (n3 1) (fun _ _=>rfl))⟩))
  (zd ((jq (i:=4) S.nd rfl #[2]) (jg zb))
  (zd ((zk (i:=5) S.nd rfl #[2]) i3)
  (zd ((zk (i:=6) S.nd rfl #[2]) (df3 hE g (hr.mono #[1]) rfl zp (za (at3 (n3 0) i3 (fun _ _=>rfl)) (za (n3 3) (za (n3 5) (za (n3 2) zb))))))
  (zd (zaJ WaP (pw3 (zaQ (zr Jh (at3 (n3 6) i3 (fun _ _=>rfl)) (zq zH rfl T.n_len zC (za (n3 3) zb)) (nomark _)) (zba (zr zbF (at3 (n3 6) i3 (fun _ _=>rfl)) non3 (nomark _))))) (zd (jF (i:=4) rfl #[2] (zZ (za (n3 1) (za (n3 5) (za (at3 (n3 6) i3 (fun _ _=>rfl)) (za (at3 (n3 6) i3 (fun _ _=>rfl)) zb))))))
   (zd ((zfc (i:=5) S.nd rfl #[2]) i3)
   (ze ((zk (i:=6) S.nd rfl #[2]) (df3 hE g (hr.mono #[1]) rfl zp (za (at3 (n3 0) i3 (fun _ _=>rfl)) (za (n3 3) (za (n3 5) (za (n3 2) zb))))))))))
  (ze (jA [4] (zu (n3 4))))))))),fun ds Q h=>?_⟩
 refine Hd fun Z V=>?_;obtain⟨b,e,k,room,n,rfl,X,O,hk,a6,h1,a0,hbd,Y,U,a1,q⟩:=h;apply V;refine zj fun N l=>?_
 walk_at "rd atI0 atI1"
 refine⟨sz (by rw [YaR];omega),?_⟩
 refine jt dI (fun r=>Xa (r.getD k 0)) (fun ρ=>∃ t,ρ = [t,some (.sh true (.int k))]) e ?_ _ _ _ _ ⟨none,rfl⟩ ?_
 . rintro r hr ρ fa a5 K ⟨t,rfl⟩ kk
   have hg:=jU (xs:=r) (i:=(k:Int)) #[0] (by rw [a0 r hr];omega)
   rw [Xi] at hg
   walk_at "rd hg"
   exact kk _ ⟨_,rfl⟩
 have E:[]++e.map (fun r=>Xa (r.getD k 0))=(zo e k).map Xa:=by unfold zo;rw [Xc,YaD];rfl
 rw [E];refine l _ ?_;clear l N;have A:(zo e k).length=e.length:=by unfold zo;rw [YaR]
 have hcb:∀ t,(zo e k).getD t 0+room.2<=80*b:=fun t=>by
  unfold zo;rw [YaP,Ya0];cases L:e[t]? with
  | none=>
   show 0+room.2<=80*b
   omega
  | some r=>exact hbd r (Yah L)
 have hM:∀ j,JK e.length (winB b (zo e k) room j)->j<=81:=fun j h=>zkw (M:=80) X #[0] hcb U Y j (by rw [A];exact h)
 refine zj fun N l=>?_
 walk_at "rd"
 refine l _ ?_
 clear l N;refine zj fun N l=>?_
 walk_at "rd"
 refine l _ ?_
 clear l N;refine zj fun N l=>?_
 walk_at "rd atI0 atI1"
 refine⟨zo e k,rfl,room,rfl,rfl,#[0],#[0],O,Bits.lit (x:=1) 64,l _ ?_⟩
 clear l N
 walk_at "rd"
 refine⟨_,ZN (fun m ρ=>∃ (ws:List Win) (j:Int),ρ = [some (.sh false (.tuple [.int b,.list (e.map dI)])),some (.sh true (.int k)),some (.sh false (.tuple [.int room.1,.int room.2])),some (.sh true (.list ((zo e k).map .int))),some (.ow true (ws.map dW)),some (.sh true (.int j)),some (.sh true (.tuple [.int (winB b (zo e k) room j).1,dO (winB b (zo e k) room j).2]))]/\1<=j/\j<=82/\(ws.length:Int)=j - 1/\(∀ G,IsW e.length k (winB b (zo e k) room) j G->IsW e.length k (winB b (zo e k) room) 1 (ws++G))/\m=(82 - j).toNat) ?_ _ _ ⟨[],1,rfl,#[1],#[1],rfl,fun G h=>h,rfl⟩⟩
 rintro m ρ ⟨ws,j,rfl,a4,hj2,a2,v,rfl⟩ W hW
 walk_at "rd atI0 atI1"
 rw [YaR,A];have u:JK e.length (winB b (zo e k) room j)->W [some (.sh false (.tuple [.int b,.list (e.map dI)])),some (.sh true (.int k)),some (.sh false (.tuple [.int room.1,.int room.2])),some (.sh true (.list ((zo e k).map .int))),some (.ow true (ws.map dW++[.tuple [.int k,.int j,.int (winB b (zo e k) room j).1,dO (winB b (zo e k) room j).2]])),some (.sh true (.int (j+1))),some (.sh true (.tuple [.int (winB b (zo e k) room (j+1)).1,dO (winB b (zo e k) room (j+1)).2]))]:=fun L=>by
  have hj:=hM j L;refine hW (82 - (j+1)).toNat _ #[0] ⟨ws++[((k:Int),j,(winB b (zo e k) room j).1,(winB b (zo e k) room j).2)],j+1,by rw [Ya2];rfl,#[0],#[0],by rw [YaS];simp;omega,fun G h=>?_,rfl⟩
  have:=v (((k:Int),j,(winB b (zo e k) room j).1,(winB b (zo e k) room j).2)::G) ⟨L,rfl,h⟩
  simpa using this
 have C:(Yg dW ws).length<sizeLine:=YaU (show _<1000 by rw [YaR];omega) #[1]
 have hbj:Bits 64 (j+1):=Bits.lit (x:=j+1) 64 #[0]
 by_cases ho:(winB b (zo e k) room j).1<(e.length:Int)
 . rw [if_pos ho]
   exact⟨C,_,rfl,room,rfl,rfl,#[0],#[0],O,hbj,u (.inl ho)⟩
 . rw [if_neg ho]
   change if isNone (Cl.sh true (dO (winB b (zo e k) room j).2))=false then _ else _
   rw [zk1]
   by_cases J:(winB b (zo e k) room j).2=none
   . rw [if_neg (by rw [J];decide)]
     have:=v [] (fun z=>z.elim ho fun y=>y J)
     rw [Yao] at this;exact q ws this #[0]
   . rw [if_pos (by cases h:(winB b (zo e k) room j).2 with|none=>exact absurd h J|some i=>rfl)]
     exact⟨C,_,rfl,room,rfl,rfl,#[0],#[0],O,hbj,u (.inr J)⟩
theorem zhr(T:Txt c K mg):dd_windows_within P w K mg base:=by
 have zn6:dd_windows_of_clan P w K mg base:=znL T;obtain⟨f,fd,F,hm⟩:=T.d_windows_within;have S:FnScope ["told", "rooms", "found", "clan", "room"] ["told", "rooms"] (zg (top 36)):=⟨rfl,rfl,rfl,#[3],rfl,#[3],#[3]⟩
 refine⟨fun ds Q Q' E E' hQ hE h=>?_,⟨f,fd,fn3 F S (fun ds Q E h=>?_) (fun cdv A outer s H E E3 hE hr=>?_),F.binds fun _ _ _ _ _ _ us hl=>by obtain⟨_,_,rfl⟩:=zaW hl;rfl,F.kp,hm⟩⟩
 . revert h;repeat' (first|exact fun h=>h|exact hQ _ _|exact hE _|refine Xl fun _=>?_|refine Xr ?_ ?_|refine forall_imp fun _=>?_)
 . obtain⟨_,_,_,_,rfl,_⟩:=h;rfl
 refine⟨_,(zd ((jq (i:=2) S.nd rfl #[2]) (jg zb))
  (zd (zy WaP rfl (zco rfl T.n_enumerate (za (n3 1) zb)) (jk (n:=2) rfl (zA (zl (i:=3) S.nd rfl #[2]) (zA (zl (i:=4) S.nd rfl #[2]) jj))) (ze (zhq (i:=2) rfl #[2] (df3 hE zn6 (hr.mono #[1]) rfl zp (za (n3 0) (za (n3 3) (za (n3 4) zb)))))))
  (ze (jA [2] (zu (n3 2)))))),fun ds Q h=>?_⟩
 refine Hd fun G O=>?_;obtain⟨b,y,rooms,n,rfl,hb0,hb,I,hn8,h61,h1,hqn,hq60,C,q⟩:=h;apply O
 walk_at "rd"
 have he:jQ (rooms.map jJ)=(Xe n).map fun i=>XI [Xa (i:Nat),jJ (rooms.getD i (0,0))]:=by
  unfold jQ;rw [YaR,I]
  apply Yat
  intro i hi;have:=Yba.mp hi;rw [YaP,Ya0,YaP,YaQ #[94]];rfl
 rw [he];refine zcG (fun k ρ=>∃ (W:List (List Win)) (t u:Option L3.Cl),ρ = [some (.sh false (.tuple [.int b,.list (y.map dI)])),some (.sh false (.list (rooms.map jJ))),some (.ow true (W.flatten.map dW)),t,u]/\W.length=k/\(∀ i,i<k->IsW y.length i (winB b (zo y i) (rooms.getD i (0,0))) 1 (W.getD i []))/\W.flatten.length<=200*k) ?_ ?_ ⟨[],none,none,rfl,rfl,fun i h=>absurd h #[94],by simp⟩
 . rintro k ρ hk ⟨W,t,u,rfl,l,hWi,hWf⟩ W' hW'
   have hrk:=C (rooms.getD k (0,0)) (by rw [YaP,YaQ #[94]];exact Ya4 _)
   have hbd:∀ r∈y,r.getD k 0+(rooms.getD k (0,0)).2<=80*b:=fun r hr=>by
    have h1:=hq60 r hr (r.getD k 0) (by
     rw [YaP,YaQ (by rw [hqn r hr];exact hk)];exact Ya4 _)
    lia
   walk_at "rd"
   refine⟨y,rfl,k,rfl,rooms.getD k (0,0),rfl,rfl,hb0,hb,n,hk,h61,h1,hqn,hbd,hrk.1,hrk.2.1,#[94],fun ws N a1=>⟨sz (by rw [YaR,YaR];lia),?_⟩⟩
   have X:(W++[ws]).flatten=W.flatten++ws:=by rw [List.flatten_append];simp
   rw [<-Ya2,<-X];refine hW' _ ⟨W++[ws],_,_,rfl,by simp [l],fun i hi=>?_,by rw [X,YaS];lia⟩
   by_cases e:i=k
   . subst e
     have g1:(W++[ws]).getD i []=ws:=by rw [<-l];simp
     rw [g1];exact N
   . have g2:(W++[ws]).getD i []=W.getD i []:=by
      have hlt:i<W.length:=#[94]
      simp [Yab hlt]
     rw [g2];exact hWi i #[94]
 . intro ρ Y;refine Hd fun G O=>?_;obtain⟨W,t,u,rfl,l,hWi,hWf⟩:=Y;apply O
   walk_at "rd"
   exact q W l hWi #[94]
theorem zl2(T:Txt c K mg):dd_check_turn c P w K mg base:=by
 obtain⟨f,fd,F,hm⟩:=T.d_check_turn;have S:FnScope ["turn", "turns"] ["turn", "turns"] (zg (top 18)):=⟨rfl,rfl,rfl,#[3],rfl,#[3],#[3]⟩
 refine⟨fun ds Q Q' E E' hQ hE h=>?_,⟨f,fd,fn3 F S (fun ds Q E h=>?_) (fun cdv A outer s H E E3 hE hr=>?_),F.binds fun _ _ _ _ _ _ us hl=>by obtain⟨_,_,rfl⟩:=zaW hl;rfl,F.kp,hm⟩⟩
 . revert h;repeat' (first|exact fun h=>h|exact hQ _ _|exact hE _|refine Xl fun _=>?_|refine Xr ?_ ?_|refine forall_imp fun _=>?_)
 . obtain⟨_,_,rfl,_⟩:=h;rfl
 refine⟨_,(ze (s_if (ZP (za4 Jp Jp i3 (n3 0) (n3 1))) (ze (jo hE jv rfl rfl T.m_NoRule T.e_NoRule (za s3 zb))) zw)),fun i Q h=>?_⟩
 obtain⟨t,e,rfl,q,a⟩:=h
 walk_at "rd"
 by_cases h1:1<=t
 . rw [if_pos h1]
   exact ite2 (fun z=>a fun y=>z y.2) fun z=>q ⟨h1,YV.mp z⟩
 . rw [if_neg h1]
   exact a fun y=>h1 y.1
theorem ziq(T:Txt c K mg):dd_check_rules c P w K mg base:=by
 have znT:dd_check_turn c P w K mg base:=zl2 T;obtain⟨f,fd,F,hm⟩:=T.d_check_rules;have S:FnScope ["rules", "turns", "clans", "word", "turn", "clan"] ["rules", "turns", "clans"] (zg (top 19)):=⟨rfl,rfl,rfl,#[3],rfl,#[3],#[3]⟩
 refine⟨fun ds Q Q' E E' hQ hE h=>?_,⟨f,fd,fn3 F S (fun ds Q E h=>?_) (fun cdv A outer s H E E3 hE hr=>?_),F.binds fun _ _ _ _ _ _ us hl=>by obtain⟨_,_,_,rfl⟩:=zbf hl;rfl,F.kp,hm⟩⟩
 . revert h;repeat' (first|exact fun h=>h|exact hQ _ _|exact hE _|refine Xl fun _=>?_|refine Xr ?_ ?_|refine forall_imp fun _=>?_)
 . obtain⟨_,_,_,rfl,_⟩:=h;rfl
 refine⟨_,(ze (zy WaP rfl (zW (n3 0)) (jk (n:=3) rfl (zA (zl (i:=3) S.nd rfl #[2]) (zA (zl (i:=4) S.nd rfl #[2]) (zA (zl (i:=5) S.nd rfl #[2]) jj)))) (zd (s_if (zr (zlO (hu65 hr)) (n3 3) (zZ (za (g3s rfl T.m_FIXED) (za (g3s rfl T.m_BARRED) zb))) (by with_unfolding_all rfl)) (ze (jo hE jv rfl rfl T.m_NoRule T.e_NoRule (za s3 zb))) zw)
  (zd (Z4 (df3 hE znT (hr.mono #[1]) rfl zp (za (n3 4) (za (n3 1) zb))))
  (ze (s_if (ZP (za4 Jp Jh i3 (n3 5) (n3 2))) (ze (jo hE jv rfl rfl T.m_NoRule T.e_NoRule (za s3 zb))) zw)))))),fun M Q h=>?_⟩
 obtain⟨rs,E,n,rfl,v,q,b⟩:=h
 walk_at "rd"
 refine jx dRl rs (fun done ρ=>∃ t3 B s:Option L3.Cl,ρ = [some (.sh false (.list (rs.map dRl))),some (.sh true (.int E)),some (.sh true (.int n)),t3,B,s]/\okRs E n done) ?_ ?_ ⟨none,none,none,rfl,fun r h=>by cases h⟩
 . rintro done r rest ρ J ⟨t3,B,s,rfl,g⟩ W hW
   have hr:r∈rs:=by rw [J];simp
   walk_at "rd"
   refine⟨v r hr,zmM,ite2 (fun z=>b fun y=>(zgs _).mp z (y r hr).1) fun z=>⟨fun h1=>?_,fun h1=>b fun y=>h1 (y r hr).2.1⟩⟩
   by_cases l:0<=r.2.2
   . rw [if_pos l]
     refine ite2 (fun h3=>b fun y=>h3 (y r hr).2.2.2) fun h3=>hW _ ⟨_,_,_,rfl,fun x H=>?_⟩
     rcases Ya3.mp H with y|y
     . exact g x y
     . rw [Ya6.mp y]
       exact⟨YV.mp fun y=>z ((zgs _).mpr y),h1,l,YV.mp h3⟩
   . rw [if_neg l]
     exact b fun y=>l (y r hr).2.2.1
 . rintro ρ ⟨t3,B,s,rfl,g⟩
   exact q g
theorem zh7(T:Txt c K mg):dd_forbidden P w K mg base:=by
 obtain⟨f,fd,F,Y⟩:=T.d_forbidden;have S:FnScope ["rules", "clans", "found", "word", "turn", "clan", "other"] ["rules", "clans"] (zg (top 20)):=⟨rfl,rfl,rfl,#[3],rfl,#[3],#[3]⟩
 refine⟨fun b Q Q' hQ h=>?_,⟨f,fd,fnC [] F S (fun b Q h=>?_) (fun cdv A outer s H H0 E E3 hE hr=>?_),F.binds fun _ _ _ _ _ _ us U=>by obtain⟨_,_,rfl⟩:=zaW U;rfl,F.kp,Y⟩⟩
 . revert h;repeat' (first|exact fun h=>h|exact hQ _ _|exact hE _|refine Xl fun _=>?_|refine Xr ?_ ?_|refine forall_imp fun _=>?_)
 . obtain⟨_,_,rfl,_⟩:=h;exact⟨rfl,by simp [jm]⟩
 refine⟨_,(zd (zc2 (i:=2) S.nd rfl #[2])
  (zd (zy WaP rfl (zW (n3 0)) (jk (n:=3) rfl (zA (zl (i:=3) S.nd rfl #[2]) (zA (zl (i:=4) S.nd rfl #[2]) (zA (zl (i:=5) S.nd rfl #[2]) jj)))) (ze (zy WaP rfl (jh rfl T.n_range (za (n3 1) zb)) (zl (i:=6) S.nd rfl #[2]) (ze (s_if (zr (jn hr.units) (cmp3 (jn hr.units) (n3 6) (n3 5) (nomark _)) (cmp3 (jn hr.units) (n3 3) (g3s rfl T.m_BARRED) (nomark _)) (nomark _)) (ze (zj4 (i:=2) (zT hr) rfl #[2] (n3 4) (n3 6) b3)) zw)))))
  (ze (zm5 (i:=2) rfl #[2])))),fun b Q h=>?_⟩
 obtain⟨C,n,rfl,h8,U,q⟩:=h;refine zj fun N L=>?_
 walk_at "rd"
 refine L _ ?_
 clear L N;refine z5 (fun ρ=>∃ (b:List (List Key×D)) (t3 z v l:Option L3.Cl),ρ = [some (.sh false (.list (C.map dRl))),some (.sh true (.int n)),some (.dt b),t3,z,v,l]/\(b.all fun p=>zt p.2)=true/\j4 C n b) (fun N L=>?_) ?_
 . walk_at "rd"
   refine jx dRl C (fun done ρ=>∃ (b:List (List Key×D)) (t3 z v l:Option L3.Cl),ρ = [some (.sh false (.list (C.map dRl))),some (.sh true (.int n)),some (.dt b),t3,z,v,l]/\(b.all fun p=>zt p.2)=true/\b.length<=8*done.length/\j4 done n b) ?_ (fun ρ zz0 => by obtain ⟨b,t3,z,v,l,e,h1,_,h2⟩ := zz0; exact L _ ⟨b,t3,z,v,l,e,h1,h2⟩) ⟨[],none,none,none,none,rfl,rfl,Wby _,j4.nil n⟩
   rintro done r rest ρ hd ⟨b,t3,z,v,l,rfl,hs,hdl,O⟩ W hW
   have a0:done.length<C.length:=by rw [hd,YaS,Xq];lia
   walk_at "rd"
   refine⟨#[94],#[94],?_⟩
   rw [Xi];refine ja (fun j ρ=>∃ (b:List (List Key×D)) (l:Option L3.Cl),ρ = [some (.sh false (.list (C.map dRl))),some (.sh true (.int n)),some (.dt b),some (.sh true (.str r.1)),some (.sh true (.int r.2.1)),some (.sh true (.int r.2.2)),l]/\(b.all fun p=>zt p.2)=true/\b.length<=8*done.length+j/\Jb done r n j b) ?_ ?_ ⟨b,_,rfl,hs,hdl,O.part⟩
   . rintro j ρ hj ⟨b,l,rfl,hs,hdl,I⟩ V hV
     walk_at "rd"
     refine⟨by rfl,by rfl,ite2 (fun e=>⟨YaU (show _<1000000 by lia) #[1],hV _ ⟨_,_,rfl,zix hs rfl,?_,I.put e⟩⟩) fun e=>hV _ ⟨_,_,rfl,hs,#[94],I.skip e⟩⟩
     have:=ziy b (kk r.2.1 (0+(j:Int))) (.bool true)
     lia
   . rintro ρ ⟨b,l,rfl,hs,hdl,I⟩
     refine hW _ ⟨b,_,_,_,_,rfl,hs,?_,I.whole⟩
     rw [YaS,Xm]
     lia
 intro ρ Z;refine Hd fun G k=>?_;obtain⟨b,t3,z,v,l,rfl,hs,O⟩:=Z;apply k
 walk_at "rd"
 exact q b hs O
theorem zll(T:Txt c K mg):dd_may_come P w K mg base:=by
 obtain⟨f,u,F,l⟩:=T.d_may_come;have S:FnScope ["visit", "turn", "barred"] ["visit", "turn", "barred"] (zg (top 38)):=⟨rfl,rfl,rfl,#[3],rfl,#[3],#[3]⟩
 refine⟨fun b Q v hQ h=>?_,⟨f,u,fnC [] F S (fun b Q h=>?_) (fun cdv A a s H J E B G hr=>?_),F.binds fun _ _ _ _ _ _ C p=>by obtain⟨_,_,_,rfl⟩:=zbf p;rfl,F.kp,l⟩⟩
 . revert h;repeat' (first|exact fun h=>h|exact hQ _ _|exact hE _|refine Xl fun _=>?_|refine Xr ?_ ?_|refine forall_imp fun _=>?_)
 . obtain⟨_,_,_,rfl,g,_⟩:=h;exact⟨rfl,by simpa [jm] using g⟩
 refine⟨_,(zd (s_if (pw3 (zaQ (zr Jh (n3 1) (at3 (n3 0) i3 (fun _ _=>rfl)) (nomark _)) (zba (pw3 (zbR (zr zbF (at3 (n3 0) i3 (fun _ _=>rfl)) non3 (nomark _)) (zbP (zr JB (n3 1) (at3 (n3 0) i3 (fun _ _=>rfl)) (nomark _)))))))) (ze (zcn b3)) zw)
  (ze (zcn (zjC (i:=2) (zT hr) rfl #[2] (n3 1) (at3 (n3 0) i3 (fun _ _=>rfl)))))),fun b Q h=>?_⟩
 obtain⟨⟨vc,y,L,n⟩,t,b,rfl,g,q⟩:=h;unfold mayD at q;dsimp only at q;cases n with
 | none=>
  walk_at "rd dO"
  refine ite2 (fun e=>?_) fun e=>?_
  . rw [if_pos e] at q;exact q
  . rw [if_neg e] at q;exact q
 | some x=>
  walk_at "rd dO"
  refine ite2 (fun e=>?_) fun e=>?_
  . rw [if_pos e] at q;exact q
  . rw [if_neg e] at q
    dsimp only at q;refine ite2 (fun e=>?_) fun e=>?_
    . rw [if_pos e] at q;exact q
    . rw [if_neg e] at q;exact q
theorem zi6(T:Txt c K mg):dd_choices_of_turns c P w K mg base:=by
 have l:dd_check_rules c P w K mg base:=ziq T;have znX:dd_forbidden P w K mg base:=zh7 T;have zn1:dd_may_come P w K mg base:=zll T;obtain⟨f,fd,F,hm⟩:=T.d_choices_of_turns;have S:FnScope ["told", "visits", "rules", "turns", "clans", "barred", "found", "turn"] ["told", "visits", "rules"] (zg (top 39)):=⟨rfl,rfl,rfl,#[3],rfl,#[3],#[3]⟩
 refine⟨fun ds Q Q' E E' hQ hE h=>?_,⟨f,fd,fn3 F S (fun ds Q E h=>?_) (fun cdv A outer s H E E3 hE hr=>?_),F.binds fun _ _ _ _ _ _ us hl=>by obtain⟨_,_,_,rfl⟩:=zbf hl;rfl,F.kp,hm⟩⟩
 . revert h;repeat' (first|exact fun h=>h|exact hQ _ _|exact hE _|refine Xl fun _=>?_|refine Xr ?_ ?_|refine forall_imp fun _=>?_)
 . obtain⟨_,_,_,_,_,_,rfl,_⟩:=h;rfl
 refine⟨_,(zd ((zk (i:=3) S.nd rfl #[2]) (op3 jT (zq zH rfl T.n_len zC (za (at3 (n3 0) i3 (fun _ _=>rfl)) zb)) i3))
  (zd ((zk (i:=4) S.nd rfl #[2]) (zq zH rfl T.n_len zC (za (at3 (at3 (n3 0) i3 (fun _ _=>rfl)) i3 (fun _ _=>rfl)) zb)))
  (zd (Z4 (df3 hE l (hr.mono #[1]) rfl zp (za (n3 2) (za (n3 3) (za (n3 4) zb)))))
  (zd (zdF (i:=5) [] #[1] S.nd rfl #[2] znX (hr.mono #[1]) rfl zp (za (n3 2) (za (n3 4) zb)))
  (zd ((jq (i:=6) S.nd rfl #[2]) (jg zb))
  (zd (zdU 5 (zy WaP rfl (Z8 rfl T.n_range (za i3 (za (op3 zU (n3 3) i3) zb))) (zl (i:=7) S.nd rfl #[2]) (ze (jF (i:=6) rfl #[2] (new3 (jP ["place", "visit"] ["turn", "barred"] [7,5] rfl (z0 (osc:=zg (top 39)) #[3]) rfl (zco rfl T.n_enumerate (za (n3 1) zb)) (fun H0 s H fp cl=>⟨(jk (n:=2) rfl (zA (zl (i:=0) (show((["place", "visit"]:List Xk)++(["turn", "barred"]:List Xk)).Nodup by decide) rfl #[2]) (zA (zl (i:=1) (show((["place", "visit"]:List Xk)++(["turn", "barred"]:List Xk)).Nodup by decide) rfl #[2]) jj))),(ziE (val3 (dfX (E:=fun _ _ _=>False) zn1 (hr.mono #[1]) rfl jH (za (n3 1) (za (n3 2) (za (n3 3) zb)))))),(n3 0)⟩)))))))
  (ze (jA [6] (zu (n3 6)))))))))),fun ds Q h=>?_⟩
 refine Hd fun G O=>?_;obtain⟨b,L,V,rs,n,T',rfl,hq,hT,hn,h8,hV,hVc,hrl,a0,q,hE'⟩:=h;apply O;have hd0:atI (L.map dI) 0=some (XB ((L[0]'(by omega)).map Xa)):=J9 (i:=0) #[0]
 have a4:(L[0]'(by omega)).length=n:=hn _ (Ya4 _)
 have et:((L.length:Int) - 1)=(T':Int):=#[0]
 refine zj fun N v=>?_
 walk_at "rd YaR et"
 refine v _ ?_
 clear v N;refine zj fun N v=>?_
 walk_at "rd hd0 YaR a4"
 refine v _ ?_
 clear v N;refine zj fun N v=>?_
 walk_at "rd"
 refine⟨rs,rfl,a0,fun hok=>v _ ?_,hE'⟩
 clear v N;refine zj fun N v=>?_
 walk_at "rd"
 refine⟨rs,rfl,n,rfl,h8,hrl,fun ds hds hF=>v _ ?_⟩
 clear v N;refine zj fun N v=>?_
 walk_at "rd"
 refine v _ ?_
 clear v N;refine z5 (fun ρ=>∃ (ch:List (List Int)) (t7:Option L3.Cl), ρ = [some (.sh false (.tuple [.int b,.list (L.map dI)])),some (.sh false (.list (V.map dW))),some (.sh false (.list (rs.map dRl))),some (.sh true (.int T')),some (.sh true (.int n)),some (.fd ds),some (.ow true (ch.map dI)),t7]/\ch.length=T'/\(∀ row∈ch,row.length<=2000/\row.Nodup/\∀ x∈row,InR x V.length)/\ChOk rs V ch) (fun N v=>?_) ?_
 . walk_at "rd"
   refine⟨#[1],#[1],#[0],#[0],?_⟩
   rw [show((T':Int)+1 - 1).toNat=T' by omega]
   refine ja (fun k ρ=>∃ (ch:List (List Int)) (t7:Option L3.Cl), ρ = [some (.sh false (.tuple [.int b,.list (L.map dI)])),some (.sh false (.list (V.map dW))),some (.sh false (.list (rs.map dRl))),some (.sh true (.int T')),some (.sh true (.int n)),some (.fd ds),some (.ow true (ch.map dI)),t7]/\ch.length=k/\(∀ row∈ch,row.length<=2000/\row.Nodup/\∀ x∈row,InR x V.length)/\ChOk rs V ch) ?_ (fun ρ h=>v ρ h) ⟨[],_,rfl,rfl,fun row h=>(by cases h),fun k h=>absurd h (Yz _)⟩
   rintro k ρ hk ⟨ch,t7,rfl,C,hrow,hch⟩ W hW
   walk_at "rd"
   rw [zeI];refine⟨sz (by rw [YaR,YaG];omega),?_⟩
   refine zeN (fun i:Nat=>XI [Xa (i:Nat),dW (V.getD i (0,0,0,none))]) (fun i:Nat=>Xa (i:Nat)) (fun i:Nat=>mayD ds (V.getD i (0,0,0,none)) (1+(k:Int))) (fun ρ=>∃ t0 t1,ρ = [t0,t1,some (.sh true (.int ((1+(k:Int))))),some (.fd ds)]) (Xe V.length) ?_ _ _ _ _ ⟨none,none,rfl⟩ ?_
   . rintro i hi ρ fa acc K ⟨t0,t1,rfl⟩ U
     walk_at "rd"
     refine⟨hds,V.getD i (0,0,0,none),rfl,rfl,rfl,rfl,hds,?_⟩
     by_cases e:mayD ds (V.getD i (0,0,0,none)) (1+(k:Int))=true
     . rw [if_pos e] at U
       rw [if_pos e];exact U _ ⟨_,_,rfl⟩
     . rw [if_neg e] at U
       rw [if_neg e];exact U _ ⟨_,_,rfl⟩
   . have hm:((Xe V.length).filter fun i:Nat=>mayD ds (V.getD i (0,0,0,none)) (1+(k:Int))).map (fun i:Nat=>Xa (i:Nat))=(((Xe V.length).filter fun i:Nat=>mayD ds (V.getD i (0,0,0,none)) (1+(k:Int))).map fun i:Nat=>(i:Int)).map Xa:=by rw [YaD];rfl
     have hyl:=Waw (fun i:Nat=>mayD ds (V.getD i (0,0,0,none)) (1+(k:Int))) (Xe V.length)
     rw [YaG] at hyl;rw [Xc,hm];refine⟨YaU (show _<1000 by rw [YaR];omega) #[1],hW _ ⟨ch++[((Xe V.length).filter fun i:Nat=>mayD ds (V.getD i (0,0,0,none)) (1+(k:Int))).map fun i:Nat=>(i:Int)],_,by rw [Ya2];rfl,by simp [C],fun row hr=>?_,?_⟩⟩
     rcases Ya3.mp hr with z|z
     . exact hrow row z
     . rw [Ya6.mp z]
       refine⟨by rw [YaR];omega,zjN (WaZ.filter _),fun x hx=>?_⟩
       obtain⟨i,hi,rfl⟩:=Ya7.mp hx;have:=Yba.mp (Ya9.mp hi).1;exact⟨#[0],#[0]⟩
     . refine hch.snoc fun i hi=>?_
       rw [C,<-zio hF (hVc _ (Ja hi)),show(((k:Nat):Int)+1)=1+(k:Int) by omega]
       constructor
       . intro z
         obtain⟨j,hj,e⟩:=Ya7.mp z;have:j=i:=#[0]
         subst this;exact(Ya9.mp hj).2
       . intro z
         exact Ya7.mpr ⟨i,Ya9.mpr ⟨Yba.mpr hi,z⟩,rfl⟩
 rintro ρ ⟨ch,t7,rfl,C,hrow,hch⟩
 walk_at "rd"
 exact q hok ch C hrow hch
theorem zkO(T:Txt c K mg):dd_check_row c P w K mg base:=by
 obtain⟨f,fd,F,hm⟩:=T.d_check_row;have S:FnScope ["row", "turns", "clans", "clan"] ["row", "turns", "clans"] (zg (top 45)):=⟨rfl,rfl,rfl,#[3],rfl,#[3],#[3]⟩
 refine⟨fun ds Q Q' E E' hQ hE h=>?_,⟨f,fd,fn3 F S (fun ds Q E h=>?_) (fun cdv A outer s H E E3 hE hr=>?_),F.binds fun _ _ _ _ _ _ us hl=>by obtain⟨_,_,_,rfl⟩:=zbf hl;rfl,F.kp,hm⟩⟩
 . revert h;repeat' (first|exact fun h=>h|exact hQ _ _|exact hE _|refine Xl fun _=>?_|refine Xr ?_ ?_|refine forall_imp fun _=>?_)
 . obtain⟨_,_,_,rfl,_⟩:=h;rfl
 refine⟨_,(zd (s_if (zr (Jm hr.units) (zq zH rfl T.n_len zC (za (n3 0) zb)) (n3 1) (nomark _)) (ze (jo hE jv rfl rfl T.m_NoRow T.e_NoRow (za s3 zb))) zw)
  (ze (zy WaP rfl (zW (n3 0)) (zl (i:=3) S.nd rfl #[2]) (ze (s_if (ZP (za4 Jp Jh i3 (n3 3) (n3 2))) (ze (jo hE jv rfl rfl T.m_NoRow T.e_NoRow (za s3 zb))) zw))))),fun E Q h=>?_⟩
 obtain⟨row,T',n,rfl,q,hE'⟩:=h
 walk_at "rd"
 rw [YaR]
 by_cases p:(row.length:Int)=T'
 case neg=>rw [if_pos p];exact hE' fun z=>p (by rw [z.1])
 rw [if_neg (fun z=>z p)]
 refine jx Xa row (fun e ρ=>∃ t,ρ = [some (.sh false (.list (row.map .int))),some (.sh true (.int T')),some (.sh true (.int n)),t]/\∀ x∈e,0<=x/\x<(n:Int)) ?_ ?_ ⟨none,rfl,fun x h=>by cases h⟩
 . rintro e x rest ρ hd ⟨t,rfl,hall⟩ W v
   have hx:x∈row:=by rw [hd];simp
   walk_at "rd"
   by_cases h2:0<=x
   case neg=>rw [if_neg h2];exact hE' fun z=>h2 (z.2 x hx).1
   rw [if_pos h2]
   by_cases h3:x<(n:Int)
   case neg=>rw [if_pos h3];exact hE' fun z=>h3 (z.2 x hx).2
   rw [if_neg (fun z=>z h3)]
   exact v _ ⟨_,rfl,fun y hy=>by
    rcases Ya3.mp hy with z|z
    . exact hall y z
    . rw [Ya6.mp z];exact⟨h2,h3⟩⟩
 . rintro ρ ⟨t,rfl,hall⟩
   exact q ⟨#[0],hall⟩
theorem znj(T:Txt c K mg):dd_choices_of_visits P w K mg base:=by
 obtain⟨f,fd,F,hm⟩:=T.d_choices_of_visits;have S:FnScope ["visits", "choices", "found", "turn", "places", "place"] ["visits", "choices"] (zg (top 40)):=⟨rfl,rfl,rfl,#[3],rfl,#[3],#[3]⟩
 refine⟨fun ds Q Q' E E' hQ hE h=>?_,⟨f,fd,fn3 F S (fun ds Q E h=>?_) (fun cdv A outer s H E E3 hE hr=>?_),F.binds fun _ _ _ _ _ _ us hl=>by obtain⟨_,_,rfl⟩:=zaW hl;rfl,F.kp,hm⟩⟩
 . revert h;repeat' (first|exact fun h=>h|exact hQ _ _|exact hE _|refine Xl fun _=>?_|refine Xr ?_ ?_|refine forall_imp fun _=>?_)
 . obtain⟨_,_,rfl,_⟩:=h;rfl
 refine⟨_,(zd ((zeq (i:=2) S.nd rfl #[2]) ["visit"] [] [] rfl (z0 (osc:=zg (top 40)) #[3]) rfl (zW (n3 0)) (fun s H fp cl=>⟨jl (i:=0) (show((["visit"]:List Xk)++([]:List Xk)).Nodup by decide) rfl #[2] (by first|exact .inl rfl|exact .inr rfl),zbV zJ⟩) (fun σ H Q h=>⟨show 0<=sizeLine by decide,h⟩) (fun G=>RdVs.nil) rfl)
  (zd (zy WaP rfl (zco rfl T.n_enumerate (za (n3 1) zb)) (jk (n:=2) rfl (zA (zl (i:=3) S.nd rfl #[2]) (zA (zl (i:=4) S.nd rfl #[2]) jj))) (ze (zy WaP rfl (zW (n3 4)) (zl (i:=5) S.nd rfl #[2]) (ze (zhJ (i:=2) rfl #[2] (n3 5) (n3 3) (fun _ _=>rfl))))))
  (ze (jA [2] (zu (n3 2)))))),fun ds Q h=>?_⟩
 refine Hd fun O Y=>?_;obtain⟨V,v,rfl,hV,hT,L,q⟩:=h;apply Y;(refine zj fun N hN=>?_)
 walk_at "rd YaR"
 refine⟨#[94],fun ps hps=>hN _ ?_⟩
 clear hN N;have e0:Xb V.length ([]:List D)=(Xb V.length ([]:List Int)).map fun r=>r.map Xa:=by rw [Yaz];rfl
 rw [e0];refine z5 (fun ρ=>∃ (g:List (List Int)) (E t4 t5:Option L3.Cl),ρ = [some (.sh false (.list (V.map dW))),some (.sh false (.list (v.map dI))),some (.tr ps (g.map fun r=>r.map Xa)),E,t4,t5]/\g.length=V.length/\(∀ row∈g,∀ x∈row,InR x v.length)/\TvOk V.length v v.length [] g) (fun N hN=>?_) ?_
 . walk_at "rd"
   rw [zi5];refine zcG (fun k ρ=>∃ (g:List (List Int)) (E t4 t5:Option L3.Cl),ρ = [some (.sh false (.list (V.map dW))),some (.sh false (.list (v.map dI))),some (.tr ps (g.map fun r=>r.map Xa)),E,t4,t5]/\g.length=V.length/\(∀ row∈g,∀ x∈row,InR x v.length)/\(∀ row∈g,row.length<=2000*k)/\TvOk V.length v k [] g) ?_ (fun ρ zz0 => by obtain ⟨g,E,t4,t5,e,h1,h2,_,h3⟩ := zz0; exact hN ρ ⟨g,E,t4,t5,e,h1,h2,h3⟩) ⟨Xb V.length [],none,none,none,rfl,by simp,fun row h x hx=>(by rw [Wai h] at hx;cases hx),fun row h=>(by rw [Wai h];exact Wby _),TvOk.nil _ _⟩
   rintro k ρ hk ⟨g,E,t4,t5,rfl,C,hin,j,htv⟩ W hW
   obtain⟨r1,r2⟩:=L (v.getD k []) (Ja hk);generalize X:v.getD k []=row at r1 r2
   walk_at "rd"
   refine jx Xa row (fun u ρ=>∃ (g:List (List Int)) (t5:Option L3.Cl),ρ = [some (.sh false (.list (V.map dW))),some (.sh false (.list (v.map dI))),some (.tr ps (g.map fun r=>r.map Xa)),some (.sh true (.int (k:Int))),some (.sh false (.list (row.map .int))),t5]/\g.length=V.length/\(∀ row∈g,∀ x∈row,InR x v.length)/\(∀ row∈g,row.length<=2000*k+u.length)/\TvOk V.length v k u g) ?_ ?_ ⟨g,_,rfl,C,hin,j,htv⟩
   . rintro u x a0 ρ hd ⟨g,t5,rfl,C,hin,j,htv⟩ V' U
     have hx:InR x g.length:=by rw [C];exact r2 x (by rw [hd];simp)
     have a5:u.length<row.length:=by rw [hd,YaS,Xq];lia
     obtain⟨a1,a2⟩:=zbZ (d:=[]) hx;have a3:=hin _ a2;have a4:=j _ a2;generalize hrv:g.getD x.toNat []=M at a1 a2 a3 a4;have b1:atI (g.map fun r=>r.map Xa) x=some (M.map Xa):=by rw [Z9,a1];rfl
     have b2:ixN (g.map fun r=>r.map Xa).length x=some x.toNat:=JJ hx.1 (by rw [YaR];exact hx.2)
     walk_at "rd"
     refine⟨_,b1,_,b2,YaU (show _<1000000 by rw [YaR];lia) #[1],U _ ⟨g.set x.toNat (M++[(k:Int)]),_,by rw [Wbu,Ya2];rfl,by rw [YaN];exact C,fun r hr y hy=>?_,fun r hr=>?_,hrv ▸ htv.step hx C⟩⟩
     . rcases Wag hr with z|z
       . exact hin r z y hy
       . rw [z] at hy
         rcases Ya3.mp hy with w|w
         . exact a3 y w
         . rw [Ya6.mp w];exact⟨#[94],#[94]⟩
     . rw [YaS,Xm]
       rcases Wag hr with z|z
       . have:=j r z;lia
       . rw [z,YaS,Xm];lia
   . intro ρ Z;refine Hd fun O Y=>?_;obtain⟨g,t5,rfl,C,hin,j,htv⟩:=Z;apply Y
     exact hW _ ⟨g,_,_,_,rfl,C,hin,fun r hr=>(by have:=j r hr;lia),htv.whole X⟩
 intro ρ Z;refine Hd fun O Y=>?_;obtain⟨g,E,t4,t5,rfl,C,hin,htv⟩:=Z;apply Y
 walk_at "rd"
 have:=q g C hin htv.fin;rw [YaD];exact this
theorem zm1(T:Txt c K mg):dd_move_along P w K mg base:=by
 obtain⟨f,fd,F,z⟩:=T.d_move_along;have S:FnScope ["choice", "came", "taken", "holders", "taker", "former"] ["choice", "came", "taken", "holders"] (zg zce):=⟨rfl,rfl,rfl,#[3],rfl,#[3],#[3]⟩
 refine⟨fun O Q Q' hQ h=>?_,⟨f,fd,fnC [1,2,3] F S (fun O Q h=>?_) (fun a4 A C s H H0 E E3 hE y=>?_),F.binds fun _ _ _ _ _ _ us hl=>by obtain⟨_,_,_,_,rfl⟩:=zaL hl;rfl,F.kp,z⟩⟩
 . revert h;repeat' (first|exact fun h=>h|exact hQ _ _|exact hE _|refine Xl fun _=>?_|refine Xr ?_ ?_|refine forall_imp fun _=>?_)
 . refine Hd fun V ζ=>?_;obtain⟨_,_,_,_,_,_,_,_,_,_,_,_,_,rfl,_⟩:=h;apply ζ;exact⟨rfl,by simp [jm]⟩
 refine⟨_,(ze (zaJ WaP (zr zbF (n3 0) non3 (nomark _)) (zd ((zk (i:=4) S.nd rfl #[2]) (zcH (i:=1) (zT y) rfl #[2] (n3 0)))
  (zd ((zk (i:=5) S.nd rfl #[2]) (zk8 (i:=2) (zT y) rfl #[2] (n3 4)))
  (zd (zdj (i:=2) (zT y) rfl #[2] (n3 4) (n3 0))
  (zd (zdj (i:=3) (zT y) rfl #[2] (n3 0) (n3 4))
  (ze ((zk (i:=0) S.nd rfl #[2]) (n3 5))))))))),fun O Q h=>?_⟩
 refine Hd fun V ζ=>?_;obtain⟨x,U,a2,a3,G,t,h,r,l,Z,B',m,L,rfl,hw,p,hA,hB,q⟩:=h;apply ζ
 walk_at "rd"
 refine⟨_,ZN (fun k ρ=>(∃ (x:Int) (b g:Tb) (v u:Option L3.Cl) (j:Nat),ρ = [some (.sh true (.int x)),some (.dm U G),some (.dm a2 b),some (.dm a3 g),v,u]/\OnWay L G t h b g r x Z B' j/\k=j+1)\/∃ (b g:Tb) (v u:Option L3.Cl),ρ = [some (.sh true .none),some (.dm U G),some (.dm a2 b),some (.dm a3 g),v,u]/\Moved L t h b g l Z B') ?_ _ _ (.inl ⟨x,t,h,_,_,m,rfl,p,rfl⟩)⟩
 rintro k ρ (⟨x,b,g,v,u,j,rfl,p,rfl⟩|⟨b,g,v,u,rfl,z⟩) W hW
 . obtain⟨s,R,_⟩:=p.came
   obtain⟨I,J⟩:=p.step hw R;have l1:=p.ot.len;have l2:=p.oh.len;refine zdW fun Y N' B n=>?_
   walk_at "rd"
   refine B ?_
   clear B n Y N';refine zj fun N a=>?_
   walk_at "rd R"
   refine a _ ?_
   clear a N;refine zj fun N a=>?_
   walk_at "rd"
   refine a _ ?_
   clear a N;refine zj fun N a=>?_
   walk_at "rd"
   refine⟨YaU (show _<1000000 by omega) #[1],a _ ?_⟩
   clear a N;refine zj fun N a=>?_
   walk_at "rd"
   refine⟨YaU (show _<1000000 by omega) #[1],a _ ?_⟩
   clear a N;cases e:getM b s with
   | none=>
    walk_at "rd optI"
    exact hW 0 _ #[0] (.inr ⟨_,_,_,_,rfl,I e⟩)
   | some M=>
    obtain⟨X,a0,o'⟩:=J M e
    walk_at "rd optI"
    exact hW (X+1) _ #[0] (.inl ⟨M,_,_,_,_,X,rfl,o',rfl⟩)
 . refine zdW fun Y N' B n=>?_
   walk_at "rd"
   refine n ?_
   walk_at "rd"
   exact q b g z
theorem zhE(T:Txt c K mg):dd_settle P w K mg base:=by
 have n:dd_move_along P w K mg base:=zm1 T;obtain⟨f,fd,F,hm⟩:=T.d_settle;have S:FnScope ["start", "choices", "taken", "holders", "reached", "came", "place", "seeker", "choice"] ["start", "choices", "taken", "holders"] (zg (top 42)):=⟨rfl,rfl,rfl,#[3],rfl,#[3],#[3]⟩
 refine⟨fun ds Q Q' hQ h=>?_,⟨f,fd,fnC [2,3] F S (fun ds Q h=>?_) (fun cdv A aq s H H0 E E3 hE hr=>?_),F.binds fun _ _ _ _ _ _ us hl=>by obtain⟨_,_,_,_,rfl⟩:=zaL hl;rfl,F.kp,hm⟩⟩
 . revert h;repeat' (first|exact fun h=>h|exact hQ _ _|exact hE _|refine Xl fun _=>?_|refine Xr ?_ ?_|refine forall_imp fun _=>?_)
 . obtain⟨_,_,_,_,_,_,_,_,rfl,_⟩:=h;exact⟨rfl,by simp [jm]⟩
 refine⟨_,(zd ((jq (i:=4) S.nd rfl #[2]) (jg (za (n3 0) zb)))
  (zd (zdq (i:=5) S.nd rfl #[2])
  (zd ((zk (i:=6) S.nd rfl #[2]) i3)
  (zd (zaJ WaP (zr Jh (n3 6) (zq zH rfl T.n_len zC (za (n3 4) zb)) (nomark _)) (zd ((zk (i:=7) S.nd rfl #[2]) (at3 (n3 4) (n3 6) (fun _ _=>rfl)))
   (zd (zy WaP rfl (zW (at3 (n3 1) (n3 7) (fun _ _=>rfl))) (zl (i:=8) S.nd rfl #[2]) (ze (s_if (zdH (i:=5) (zT hr) rfl #[2] (n3 8)) (zd (zdj (i:=5) (zT hr) rfl #[2] (n3 8) (n3 7))
    (zd (s_if (zdH (i:=3) (zT hr) rfl #[2] (n3 8)) (zd (ziK [5,2,3] #[1] n (hr.mono #[1]) rfl zp (za (n3 8) (za (n3 5) (za (n3 2) (za (n3 3) zb)))))
     (ze (zcn (new3 (jg zb))))) zw)
    (ze (jF (i:=4) rfl #[2] (zcH (i:=3) (zT hr) rfl #[2] (n3 8)))))) zw)))
   (ze ((zfc (i:=6) S.nd rfl #[2]) i3)))))
  (ze (zcn (new3 (zmR rfl rfl T.n_sorted (za (n3 4) zb))))))))),fun ds Q h=>?_⟩
 refine Hd fun G O=>?_;obtain⟨start,v,a2,a3,t,h,A',B',rfl,ao,hA,hB,h62,hst,ae,hm,ht,hh,h0,hte,q1,q2⟩:=h;apply O;generalize hEd:(fun s c:Int=>c∈v.getD s.toNat [])=Ed at q1
 have hte:∀ s c,getM t s=some c->Ed s c:=fun s c e=>by rw [<-hEd];exact hte s c e
 refine zj fun N hN=>?_;walk_at "rd"
 refine hN _ ?_;clear hN N;refine zj fun N hN=>?_;walk_at "rd"
 refine fun ac=>hN _ ?_
 clear hN N;refine zj fun N hN=>?_;walk_at "rd"
 (refine hN _ ?_;clear hN N);refine z5 (fun ρ=>∃ (R:List Int) (b:Tb) (p:Nat) (t7 M:Option L3.Cl),ρ = [some (.sh true (.int start)),some (.sh false (.list (v.map dI))),some (.dm a2 t),some (.dm a3 h),some (.ow true (R.map .int)),some (.dm ac b),some (.sh true (.int (p:Int))),t7,M]/\Rea Ed start t h b R A' B'/\(∀ x∈R,∀ c∈v.getD x.toNat [],(getM b c).isSome=true)) (fun N hN=>?_) ?_
 . walk_at "rd"
   refine⟨_,ZN (fun k ρ=>∃ (R:List Int) (b:Tb) (p:Nat) (t7 M:Option L3.Cl),ρ = [some (.sh true (.int start)),some (.sh false (.list (v.map dI))),some (.dm a2 t),some (.dm a3 h),some (.ow true (R.map .int)),some (.dm ac b),some (.sh true (.int (p:Int))),t7,M]/\Rea Ed start t h b R A' B'/\(∀ x∈R.take p,∀ c∈v.getD x.toNat [],(getM b c).isSome=true)/\p<=R.length/\k=A' - p) ?_ _ _ ⟨[start],[],0,_,_,rfl,Rea.start hst,fun x hx=>(by cases hx),Wby _,rfl⟩⟩
   rintro k ρ ⟨R,b,p,t7,M,rfl,hR,hdn,hp,rfl⟩ W hW
   have a5:=zao hR.nd hR.inn;refine zdW fun Y N' U hN'=>?_
   walk_at "rd YaR"
   refine ite2 (fun hlt=>U ?_) fun az=>hN' (hN _ ⟨R,b,p,t7,M,rfl,hR,by rw [Wao #[94]] at hdn;exact hdn⟩)
   clear U hN' Y N';have hlt:p<R.length:=#[94]
   have a7:atI (R.map Xa) (p:Int)=some (Xa (R[p]'hlt)):=jb (by rw [Ya0,YaQ hlt];rfl)
   have C:R[p]'hlt∈R:=Ya4 _;have r:R[p]?=some (R[p]'hlt):=YaQ hlt;generalize R[p]'hlt=s at a7 C r;refine zj fun N1 Z=>?_
   walk_at "rd a7"
   refine Z _ ?_
   clear Z N1;obtain⟨r1,r2⟩:=zbZ (L:=v) (d:=[]) (ao ▸ hR.inn s C);have r1':atI (v.map dI) s=some (.list ((v.getD s.toNat []).map .int)):=by rw [Z9,r1];rfl
   have r3:=ae _ r2;have ag:∀ c,c∈v.getD s.toNat []->Ed s c:=fun c I=>by rw [<-hEd];exact I
   generalize am:v.getD s.toNat []=a9 at r1' r3 ag;refine z5 (fun ρ=>∃ (R:List Int) (b:Tb) (M:Option L3.Cl),ρ = [some (.sh true (.int start)),some (.sh false (.list (v.map dI))),some (.dm a2 t),some (.dm a3 h),some (.ow true (R.map .int)),some (.dm ac b),some (.sh true (.int (p:Int))),some (.sh true (.int s)),M]/\Rea Ed start t h b R A' B'/\(∀ x∈R.take p,∀ c∈v.getD x.toNat [],(getM b c).isSome=true)/\R[p]?=some s/\∀ c∈a9,(getM b c).isSome=true) (fun N1 Z=>?_) ?_
   . walk_at "rd r1'"
     refine jx Xa a9 (fun done ρ=>∃ (R:List Int) (b:Tb) (M:Option L3.Cl),ρ = [some (.sh true (.int start)),some (.sh false (.list (v.map dI))),some (.dm a2 t),some (.dm a3 h),some (.ow true (R.map .int)),some (.dm ac b),some (.sh true (.int (p:Int))),some (.sh true (.int s)),M]/\Rea Ed start t h b R A' B'/\(∀ x∈R.take p,∀ c∈v.getD x.toNat [],(getM b c).isSome=true)/\R[p]?=some s/\∀ c∈done,(getM b c).isSome=true) ?_ (fun ρ h=>Z ρ h) ⟨R,b,_,rfl,hR,hdn,r,fun c I=>(by cases I)⟩
     clear hR a5 hp hlt a7 C hdn r
     rintro done x rest ρ hd ⟨R,b,M,rfl,hR,hdn,r,ai⟩ V hV
     have C:s∈R:=Yah r;have hlt:p<R.length:=(Ya8.mp r).1;have ab:Ed s x:=ag x (by rw [hd];simp)
     have hx:InR x B':=r3 x (by rw [hd];simp)
     have a5:=zao hR.nd hR.inn;have hcl:=hR.oc.len
     ((try dsimp only [lE,fE,gn3,Xf,Xc,Xg,Xh,zt,Wbh,Wbv]);try simp only [lE,fE,gn3,Xf,Xc,Xg,Xh,zt,Wbw])
     refine zbG fun Y N' U hN'=>?_
     walk_at "rd"
     refine ite2 (fun hn=>U ?_) fun hn=>hN' (by walk_at "rd";exact hV _ ⟨R,b,_,rfl,hR,hdn,r,zjz ai hn⟩)
     clear U hN' Y N';have hn:getM b x=none:=by cases e:getM b x with|none=>rfl|some _=>rw [e] at hn;cases hn
     refine zj fun N2 hN2=>?_
     walk_at "rd"
     refine⟨YaU (show _<1000000 by lia) #[1],hN2 _ ?_⟩
     clear hN2 N2;refine zj fun N2 hN2=>?_
     refine zbG fun Y N' U hN'=>?_
     walk_at "rd"
     refine ite2 (fun hf=>U ?_) fun hf=>hN' ?_
     . clear U hN' Y N' hN2
       have hf:getM h x=none:=by cases e:getM h x with|none=>rfl|some _=>rw [e] at hf;cases hf
       have hway:=hR.seen h0 C ab hx hn;refine zj fun N3 ak=>?_
       walk_at "rd"
       refine⟨fun y=>R.idxOf y,start,A',B',R.idxOf s,Ed,hway,⟨hte,hm.free hf,ht,hh,⟨s,by rw [zV,if_pos rfl],rfl⟩,fun _ _=>rfl,fun _=>Iff.rfl,fun _ z=>z⟩,hA,hB,fun t' h' hmv=>ak _ ?_⟩
       walk_at "rd"
       exact q1 t' h' hmv
     . have hf:∃ y,getM h x=some y:=by cases e:getM h x with|none=>rw [e] at hf;exact absurd rfl hf|some y=>exact⟨y,rfl⟩
       obtain⟨y,hy⟩:=hf
       walk_at "rd"
       refine hN2 _ ?_
       clear U hN' Y N' hN2 N2
       walk_at "rd hy YaR"
       refine⟨YaU (show _<1000000 by lia) #[1],hV _ ⟨R++[y],putM b x s,_,by rw [Ya2];rfl,hR.more hm h0 C ab hx hn hy hh,fun z hz c I=>?_,by rw [Yab hlt];exact r,fun c I=>?_⟩⟩
       . rw [Wab #[94]] at hz
         exact zho (hdn z hz c I)
       . rcases Ya3.mp I with z|z
         . exact zho (ai c z)
         . rw [Ya6.mp z,zV,if_pos rfl];rfl
   intro ρ g;refine Hd fun G O=>?_;obtain⟨R',ca',t8',rfl,hR',hdn',a1,hdo'⟩:=g;apply O
   have hRA':=zao hR'.nd hR'.inn;have av:p<R'.length:=(Ya8.mp a1).1
   walk_at "rd"
   refine hW (A' - (p+1)) _ #[94] ⟨R',ca',p+1,_,_,rfl,hR',fun x hx c I=>?_,#[94],rfl⟩
   rw [WaQ,a1] at hx
   rcases Ya3.mp hx with z|z
   . exact hdn' x z c I
   . have z:x=s:=Ya6.mp z
     rw [z,am] at I;exact hdo' c I
 intro ρ g;refine Hd fun G O=>?_;obtain⟨R,b,p,t7,M,rfl,hR,hall⟩:=g;apply O
 have a5:=zao hR.nd hR.inn;have hcl:=hR.oc.len;have ax:=hR.len
 walk_at "rd"
 refine⟨R,rfl,#[94],fun ms p as=>?_⟩
 have b1:=p.length_eq;refine q2 ms (p.nodup_iff.mpr hR.nd) as #[94] (fun x hx=>⟨hR.inn x (p.mem_iff.mp hx),hR.seeks x (p.mem_iff.mp hx)⟩) (p.mem_iff.mpr (Yah hR.hd)) ⟨b.map (·.1),by rw [YaR];lia,fun x hx c I=>zaZ (hall x (p.mem_iff.mp hx) c I)⟩
theorem znM(T:Txt c K mg):dd_place_visits P w K mg base:=by
 have a:dd_choices_of_visits P w K mg base:=znj T;have r:dd_settle P w K mg base:=zhE T;obtain⟨f,fd,F,hm⟩:=T.d_place_visits;have S:FnScope ["visits", "choices", "turn_of_visit", "visit_of_turn", "turns_for", "place", "visit", "stuck", "turn"] ["visits", "choices"] (zg zbk):=⟨rfl,rfl,rfl,#[3],rfl,#[3],#[3]⟩
 refine⟨fun ds Q Q' E E' hQ hE h=>?_,⟨f,fd,fn3 F S (fun ds Q E h=>?_) (fun cdv A outer s H E E3 hE hr=>?_),F.binds fun _ _ _ _ _ _ us hl=>by obtain⟨_,_,rfl⟩:=zaW hl;rfl,F.kp,hm⟩⟩
 . revert h;repeat' (first|exact fun h=>h|exact hQ _ _|exact hE _|refine Xl fun _=>?_|refine Xr ?_ ?_|refine forall_imp fun _=>?_)
 . obtain⟨_,_,rfl,_⟩:=h;rfl
 refine⟨_,(zd (zdq (i:=2) S.nd rfl #[2])
  (zd (zdq (i:=3) S.nd rfl #[2])
  (zd ((zk (i:=4) S.nd rfl #[2]) (df3 hE a (hr.mono #[1]) rfl zp (za (n3 0) (za (n3 1) zb))))
  (zd (zy WaP rfl (zco rfl T.n_enumerate (za (n3 0) zb)) (jk (n:=2) rfl (zA (zl (i:=5) S.nd rfl #[2]) (zA (zl (i:=6) S.nd rfl #[2]) jj))) (ze (s_if (zr zbF (at3 (n3 6) i3 (fun _ _=>rfl)) non3 (nomark _)) (zd (zdF (i:=7) [2,3] #[1] S.nd rfl #[2] r (hr.mono #[1]) rfl zp (za (n3 5) (za (n3 4) (za (n3 2) (za (n3 3) zb)))))
   (ze (s_if (zr JB (zq zH rfl T.n_len zC (za (n3 7) zb)) i3 (nomark _)) (ze (zu (zZ (za s3 (za (new3 (jP ["other"] ["visits"] [0] rfl (z0 (osc:=zg zbk) #[3]) rfl (zW (n3 7)) (fun H0 s H fp cl=>⟨(zl (i:=0) (show((["other"]:List Xk)++(["visits"]:List Xk)).Nodup by decide) rfl #[2]),jD,(zZ (za (at3 (at3 (n3 1) (n3 0) (fun _ _=>rfl)) i3 (fun _ _=>rfl)) (za (at3 (at3 (n3 1) (n3 0) (fun _ _=>rfl)) i3 (fun _ _=>rfl)) zb)))⟩))) zb))))) zw))) zw)))
  (zd (zy WaP rfl (jh rfl T.n_range (za (zq zH rfl T.n_len zC (za (n3 1) zb)) zb)) (zl (i:=8) S.nd rfl #[2]) (ze (s_if (zdH (i:=3) (zT hr) rfl #[2] (n3 8)) (zd (zdF (i:=7) [3,2] #[1] S.nd rfl #[2] r (hr.mono #[1]) rfl zp (za (n3 8) (za (n3 1) (za (n3 3) (za (n3 2) zb)))))
   (ze (s_if (zr JB (zq zH rfl T.n_len zC (za (n3 7) zb)) i3 (nomark _)) (ze (zu (zZ (za s3 (za (new3 (jP ["other"] [] [] rfl (z0 (osc:=zg zbk) #[3]) rfl (zW (n3 7)) (fun H0 s H fp cl=>⟨(zl (i:=0) (show((["other"]:List Xk)++([]:List Xk)).Nodup by decide) rfl #[2]),jD,(op3 zU (n3 0) i3)⟩))) zb))))) zw))) zw)))
  (ze (zu (zZ (za s3 (za (new3 (jP ["turn"] ["visits", "visit_of_turn"] [0,3] rfl (z0 (osc:=zg zbk) #[3]) rfl (jh rfl T.n_range (za (zq zH rfl T.n_len zC (za (n3 1) zb)) zb)) (fun H0 s H fp cl=>⟨(zl (i:=0) (show((["turn"]:List Xk)++(["visits", "visit_of_turn"]:List Xk)).Nodup by decide) rfl #[2]),jD,(at3 (at3 (n3 1) (zcH (i:=2) (zT hr) rfl #[2] (n3 0)) (fun _ _=>rfl)) i3 (fun _ _=>rfl))⟩))) zb)))))))))),fun ds Q h=>?_⟩
 obtain⟨V,u,rfl,hV,hT,a1,q⟩:=h;refine zj fun N U=>?_
 walk_at "rd"
 refine fun a2=>U _ ?_
 clear U N;refine zj fun N U=>?_
 walk_at "rd"
 refine fun a3=>U _ ?_
 clear U N;refine zj fun N U=>?_
 walk_at "rd"
 refine⟨V,rfl,u,rfl,hV,hT,a1,fun tv Z htv htc=>U _ ?_⟩
 clear U N;refine z5 (fun ρ=>∃ (t h:Tb) (G A E:Option L3.Cl),ρ = [some (.sh false (.list (V.map dW))),some (.sh false (.list (u.map dI))),some (.dm a2 t),some (.dm a3 h),some (.sh true (.list (tv.map dI))),G,A,E,none]/\Mat t h/\TbOk t V.length u.length/\TbOk h u.length V.length/\(∀ s c,getM t s=some c->c∈tv.getD s.toNat [])/\∀ i,i<V.length->(V.getD i z4).2.2.2≠none->(getM t (i:Int)).isSome=true) (fun N U=>?_) ?_
 . walk_at "rd"
   rw [zeI];refine zcG (fun k ρ=>∃ (t h:Tb) (G A E:Option L3.Cl),ρ = [some (.sh false (.list (V.map dW))),some (.sh false (.list (u.map dI))),some (.dm a2 t),some (.dm a3 h),some (.sh true (.list (tv.map dI))),G,A,E,none]/\Mat t h/\TbOk t V.length u.length/\TbOk h u.length V.length/\(∀ s,(getM t s).isSome=true->s<(k:Int)/\(V.getD s.toNat z4).2.2.2≠none)/\(∀ s c,getM t s=some c->c∈tv.getD s.toNat [])/\∀ i,i<k->(V.getD i z4).2.2.2≠none->(getM t (i:Int)).isSome=true) ?_ (fun ρ ⟨t,h,G,A,E,e,h1,h2,h3,_,h4,h5⟩=>U ρ ⟨t,h,G,A,E,e,h1,h2,h3,h4,h5⟩) ⟨[],[],none,none,none,rfl,fun s c=>⟨fun z=>(by cases z),fun z=>(by cases z)⟩,TbOk.nil _ _,TbOk.nil _ _,fun s z=>(by cases z),fun s c z=>(by cases z),fun i hi=>absurd hi (Yz _)⟩
   rintro k ρ hk ⟨t,h,G,A,E,rfl,hm,ht,L,hd,M,hdu⟩ W hW
   have hvk:V.getD k z4=V.getD k (0,0,0,none):=rfl;generalize V.getD k (0,0,0,none)=v at hvk;obtain⟨vc,vj,vo,vl⟩:=v;have h0:getM t (k:Int)=none:=by
    cases e:getM t (k:Int) with
    | none=>rfl
    | some y=>have:=(hd (k:Int) (by rw [e];rfl)).1;omega
   have up:∀ s,(getM t s).isSome=true->s<((k+1:Nat):Int)/\(V.getD s.toNat z4).2.2.2≠none:=fun s z=>⟨by have:=(hd s z).1;omega,(hd s z).2⟩
   refine ziM fun N1 l=>?_
   walk_at "rd"
   refine l _ ?_
   clear l N1;refine zbG fun Y N' hY hN'=>?_
   have no:vl=none->N':=fun X=>hN' (by
    walk_at "rd"
    refine hW _ ⟨t,h,_,_,_,rfl,hm,ht,L,up,M,fun i hi I=>?_⟩
    by_cases e:i=k
    . rw [e,hvk,X] at I;exact absurd rfl I
    . exact hdu i #[0] I)
   have ah:vl≠none->Y:=fun X=>by
    have af:(V.getD k z4).2.2.2≠none:=by rw [hvk];exact X
    refine hY ?_
    clear hY hN' no;refine zj fun N1 l=>?_
    walk_at "rd"
    rw [<-Z] at ht L;refine⟨tv,rfl,#[0],u.length,#[0],.inr #[0],⟨#[0],#[0]⟩,htv,hm,ht,L,h0,M,fun t' h' b=>l _ ?_,fun rs a4 a9 a5 O a7 hC=>l _ ?_⟩
    . clear l N1
      walk_at "rd"
      rw [if_neg #[1]]
      refine hW _ ⟨t',h',_,_,_,rfl,b.mat,Z ▸ b.ot,Z ▸ b.oh,fun s z=>?_,b.ed,fun i hi I=>(b.dt _).mpr ?_⟩
      . rcases(b.dt s).mp z with y|y
        . exact up s y
        . rw [y,Xi];exact⟨#[0],af⟩
      . by_cases e:i=k
        . exact .inr (by rw [e])
        . exact .inl (hdu i #[0] I)
    . clear l N1
      have hz:0<rs.length:=YaO a7
      walk_at "rd YaR"
      rw [if_pos #[0]]
      refine⟨sz #[0],?_⟩
      obtain⟨C,hC1,a8⟩:=hC;refine jt Xa (fun x=>.tuple [.int (V.getD x.toNat (0,0,0,none)).1,.int (V.getD x.toNat (0,0,0,none)).2.1]) (fun ρ=>∃ t,ρ = [t,some (.sh false (.list (V.map dW)))]) rs ?_ _ _ _ _ ⟨none,rfl⟩ (q _ (.inr (.inl ⟨rs,a4,a9,⟨fun z=>(by rw [z] at hz;simp at hz),a5⟩,fun x hx=>⟨Z ▸ (O x hx).1,?_⟩,⟨C,hC1,fun x hx j hj hm=>a8 x hx _ ?_⟩,rfl⟩)))
      rotate_left
      . rcases(O x hx).2 with y|y
        . rw [y,Xi];exact af
        . exact(hd x y).2
      . have ad:=(O x hx).1
        exact(htc x.toNat (by have:=ad.1;have:=ad.2;omega) j hj).mpr hm
      rintro x hx ρ fa ac K ⟨t,rfl⟩ kk
      have ab:atI (V.map dW) x=some (dW (V.getD x.toNat (0,0,0,none))):=by rw [Z9,(zbZ (d:=(0,0,0,none)) (Z ▸ (O x hx).1)).1];rfl
      walk_at "rd ab"
      exact kk _ ⟨_,rfl⟩
   clear hY hN';cases vl with
   | none=>walk_at "rd dO";exact no rfl
   | some e=>walk_at "rd dO";exact ah (by nofun)
 rintro ρ ⟨t,h,G,A,E,rfl,hm,ht,L,M,hdu⟩
 refine z5 (fun ρ=>∃ (t h:Tb) (G A E t8:Option L3.Cl),ρ = [some (.sh false (.list (V.map dW))),some (.sh false (.list (u.map dI))),some (.dm a2 t),some (.dm a3 h),some (.sh true (.list (tv.map dI))),G,A,E,t8]/\Mat t h/\TbOk h u.length V.length/\(∀ s c,getM h s=some c->c∈u.getD s.toNat [])/\(∀ i,i<V.length->(V.getD i z4).2.2.2≠none->(getM t (i:Int)).isSome=true)/\∀ k:Int,0<=k->k<(u.length:Int)->(getM h k).isSome=true) (fun N U=>?_) ?_
 . have hhe:∀ s c,getM h s=some c->c∈u.getD s.toNat []:=fun s c e=>by
    have h1:=M c s ((hm c s).mpr e);obtain⟨⟨i1,i2⟩,j1,j2⟩:=L.get e;have:=(htc c.toNat #[0] s.toNat #[0]).mp (by rw [show((s.toNat:Nat):Int)=s by omega];exact h1)
    rwa [show((c.toNat:Nat):Int)=c by omega] at this
   walk_at "rd YaR"
   refine⟨#[0],#[0],?_⟩
   rw [Xi];refine ja (fun k ρ=>∃ (t h:Tb) (G A E t8:Option L3.Cl),ρ = [some (.sh false (.list (V.map dW))),some (.sh false (.list (u.map dI))),some (.dm a2 t),some (.dm a3 h),some (.sh true (.list (tv.map dI))),G,A,E,t8]/\Mat t h/\TbOk t V.length u.length/\TbOk h u.length V.length/\(∀ s c,getM h s=some c->c∈u.getD s.toNat [])/\(∀ i,i<V.length->(V.getD i z4).2.2.2≠none->(getM t (i:Int)).isSome=true)/\∀ i:Int,0<=i->i<(k:Int)->(getM h i).isSome=true) ?_ (fun ρ ⟨t,h,G,A,E,t8,e,h1,h2,h3,h4,h5,h6⟩=>U ρ ⟨t,h,G,A,E,t8,e,h1,h3,h4,h5,h6⟩) ⟨t,h,_,_,_,_,rfl,hm,ht,L,hhe,hdu,fun i h0 h1=>absurd h1 #[0]⟩
   clear hm ht L M hdu hhe t h G A E
   rintro k ρ hk ⟨t,h,G,A,E,t8,rfl,hm,ht,L,hhe,hdu,hd⟩ W hW
   ((try dsimp only [lE,fE,gn3,Xf,Xc,Xg,Xh,zt,Wbh,Wbv]);try simp only [lE,fE,gn3,Xf,Xc,Xg,Xh,zt,Wbw])
   refine zbG fun Y N' hY hN'=>?_
   walk_at "rd"
   refine ite2 (fun hn=>hY ?_) fun hn=>hN' ?_
   . have h0:getM h (0+(k:Int))=none:=by cases e:getM h (0+(k:Int)) with|none=>rfl|some _=>rw [e] at hn;cases hn
     refine zj fun N1 l=>?_
     walk_at "rd"
     refine⟨u,rfl,#[0],V.length,#[0],.inl #[0],⟨#[0],#[0]⟩,fun ag hr=>(a1 ag hr).2,hm.symm,L,ht,h0,hhe,fun h' t' b=>l _ ?_,fun rs a4 a9 a5 O a7 hC=>l _ ?_⟩
     . clear l N1
       walk_at "rd"
       rw [if_neg #[1]]
       refine hW _ ⟨t',h',_,_,_,_,rfl,b.mat.symm,b.oh,b.ot,b.ed,fun i hi I=>b.dh _ (hdu i hi I),fun i i0 i1=>(b.dt i).mpr ?_⟩
       by_cases e:i=(k:Int)
       . exact .inr #[0]
       . exact .inl (hd i i0 #[0])
     . clear l N1
       have hz:0<rs.length:=YaO a7
       walk_at "rd YaR"
       rw [if_pos #[0]]
       refine⟨sz #[0],?_⟩
       obtain⟨C,hC1,a8⟩:=hC;refine jt Xa (fun x=>.int (x+1)) (fun ρ=>∃ t,ρ = [t]) rs ?_ _ _ _ _ ⟨none,rfl⟩ (q _ (.inr (.inr ⟨rs,a4,a9,⟨fun z=>(by rw [z] at hz;simp at hz),a5⟩,fun x hx=>(O x hx).1,⟨C,hC1,fun x hx i hi hm=>a8 x hx _ hm⟩,rfl⟩)))
       rintro x hx ρ fa ac K ⟨t,rfl⟩ kk
       walk_at "rd"
       exact kk _ ⟨_,rfl⟩
   . walk_at "rd"
     refine hW _ ⟨t,h,_,_,_,_,rfl,hm,ht,L,hhe,hdu,fun i i0 i1=>?_⟩
     by_cases e:i=(k:Int)
     . rw [e]
       rw [Wbr] at hn;cases z:getM h (k:Int) with|none=>rw [z] at hn;exact absurd rfl hn|some _=>rfl
     . exact hd i i0 #[0]
 clear hm ht L M hdu t h G A E
 rintro ρ ⟨t,h,G,A,E,t8,rfl,hm,L,hhe,hdu,hd⟩
 walk_at "rd YaR"
 rw [Xi];refine⟨#[0],#[0],sz (by rw [zdI];omega),?_⟩
 refine jt (fun i:Nat=>Xa (0+(i:Nat))) (fun i:Nat=>.int (V.getD ((getM h (0+(i:Int))).getD 0).toNat (0,0,0,none)).1) (fun ρ=>∃ t,ρ = [t,some (.sh false (.list (V.map dW))),some (.dm a3 h)]) (Xe u.length) ?_ _ _ _ _ ⟨none,rfl⟩ (q _ (.inl ⟨fun k=>((getM h (0+(k:Int))).getD 0).toNat,znp hm L hhe hdu hd⟩))
 rintro i hi ρ fa ac K ⟨t,rfl⟩ kk
 have hi:=Yba.mp hi;obtain⟨y,hy⟩:=Wah.mp (hd (0+(i:Int)) #[0] #[0])
 rw [hy] at kk;have ab:atI (V.map dW) y=some (dW (V.getD y.toNat (0,0,0,none))):=by rw [Z9,(zbZ (d:=(0,0,0,none)) (L.get hy).2).1];rfl
 walk_at "rd hy ab"
 exact kk _ ⟨_,rfl⟩
theorem zj5(T:Txt c K mg)(hB:BMod mg base)(kb:K.In base):dd_mend_visits c P w K mg base:=by
 have H:=T.hdC base kb;obtain⟨f1,d1,F1,h1⟩:=T.d_look_from;have GL:Df P w K mg base 1 "look_from" ["market", "turn", "gone", "far", "came"] (zcO c.Market):=⟨f1,d1,zmD T.cl_M T.na_costs T.na_turn_prices T.na_visit_prices F1,F1.binds fun _ _ _ _ _ _ m l=>by obtain⟨_,_,_,_,_,rfl⟩:=zdw l;rfl,F1.kp,h1⟩
 obtain⟨f2,d2,q,M,u⟩:=T.x_nearest;have X:Df P w K mg base 4 "nearest" ["far", "done"] (zdg c.tb):=⟨f2,d2,zkh rfl rfl H hB T.n_min q u,q.binds fun _ _ _ _ _ _ m l=>by obtain⟨_,_,rfl⟩:=zaW l;rfl,q.kp,M⟩
 obtain⟨Y,B,F3,h3⟩:=T.d_change_prices;have GP:Df P w K mg base 1 "change_prices" ["market", "start", "whole", "far", "done"] (zcp c.Market):=⟨Y,B,zlG T.cl_M T.na_turn_prices T.na_visit_prices T.na_holders F3,F3.binds fun _ _ _ _ _ _ m l=>by obtain⟨_,_,_,_,_,rfl⟩:=zdw l;rfl,F3.kp,h3⟩
 obtain⟨f4,R,o,h4⟩:=T.d_move_along;have GM:Df P w K mg base 1 "move_along" ["choice", "came", "taken", "holders"] spMove:=⟨f4,R,zlL o,o.binds fun _ _ _ _ _ _ m l=>by obtain⟨_,_,_,_,rfl⟩:=zaL l;rfl,o.kp,h4⟩
 obtain⟨f5,d5,z,L⟩:=T.d_serve;have GS:Df P w K mg base 5 "serve" ["market", "start"] (zcS c.Market c.tb):=⟨f5,d5,zmK T.cl_M T.na_taken T.na_holders GL X GP GM z,z.binds fun _ _ _ _ _ _ m l=>by obtain⟨_,_,rfl⟩:=zaW l;rfl,z.kp,L⟩
 obtain⟨O,d6,v,Z⟩:=T.d_costs_of_turns;have GC:Df P w K mg base 1 "costs_of_turns" ["visits", "choices", "row"] (zdJ K):=⟨O,d6,znx T.n_zip v,v.binds fun _ _ _ _ _ _ m l=>by obtain⟨_,_,_,rfl⟩:=zbf l;rfl,v.kp,Z⟩
 obtain⟨f7,d7,s,h7⟩:=T.d_first_price;have J:Df P w K mg base 1 "first_price" ["visit", "turns"] (zcu K):=⟨f7,d7,zlw s,s.binds fun _ _ _ _ _ _ m l=>by obtain⟨_,_,rfl⟩:=zaW l;rfl,s.kp,h7⟩
 obtain⟨fi,di,A,MK⟩:=T.x_init;obtain⟨f8,S,p,h8⟩:=T.d_mend_visits;refine⟨fun ds Q Q' E E' hQ hE h=>?_,⟨f8,S,zjk T.cl_M T.na_turn_prices T.na_visit_prices T.na_taken T.n_len T.n_range T.n_zip T.m_Market MK (ziB T.cl_M T.na_costs T.na_turn_prices T.na_visit_prices T.na_taken T.na_holders T.n_len J A) (A.binds fun _ _ _ _ _ _ m l=>by obtain⟨_,_,_,rfl⟩:=zbf l;rfl) GC GS p,p.binds fun _ _ _ _ _ _ m l=>by obtain⟨_,_,_,rfl⟩:=zbf l;rfl,p.kp,h8⟩⟩
 obtain⟨U,ch,row,f,e,G,x2,x3,F,x5,x6,h⟩:=h;exact⟨U,ch,row,f,e,G,x2,x3,F,x5,x6,fun a b d g i j k=>hQ _ _ (h a b d g i j k)⟩
theorem zhW(T:Txt c K mg):dd_less P w K mg base:=by
 obtain⟨f,fd,F,hm⟩:=T.d_less;have S:FnScope ["one", "other"] ["one", "other"] (zg (top 8)):=⟨rfl,rfl,rfl,#[3],rfl,#[3],#[3]⟩
 refine⟨fun ds Q Q' E E' hQ hE h=>?_,⟨f,fd,fn3 F S (fun ds Q E h=>?_) (fun cdv A outer s H E E3 hE hr=>?_),F.binds fun _ _ _ _ _ _ us hl=>by obtain⟨_,_,rfl⟩:=zaW hl;rfl,F.kp,hm⟩⟩
 . revert h;repeat' (first|exact fun h=>h|exact hQ _ _|exact hE _|refine Xl fun _=>?_|refine Xr ?_ ?_|refine forall_imp fun _=>?_)
 . obtain⟨_,_,rfl,_⟩:=h;rfl
 refine⟨_,(ze (zu (cmp3 Jh (op3 zX (at3 (n3 0) i3 (fun _ _=>rfl)) (at3 (n3 1) i3 (fun _ _=>rfl))) (op3 zX (at3 (n3 1) i3 (fun _ _=>rfl)) (at3 (n3 0) i3 (fun _ _=>rfl))) (nomark _)))),fun j Q h=>?_⟩
 obtain⟨a,b,rfl,g,hb,q⟩:=h
 walk_at "rd atI0 atI1"
 exact⟨g.2.1.mulOk hb.2.2 #[1],hb.2.1.mulOk g.2.2 #[1],q⟩
theorem zk3(T:Txt c K mg):dd_check_bounds c P w K mg base:=by
 have b:dd_less P w K mg base:=zhW T;obtain⟨f,fd,F,hm⟩:=T.d_check_bounds;have S:FnScope ["bounds", "clans", "below", "above", "bound"] ["bounds", "clans"] (zg (top 12)):=⟨rfl,rfl,rfl,#[3],rfl,#[3],#[3]⟩
 refine⟨fun ds Q Q' E E' hQ hE h=>?_,⟨f,fd,fn3 F S (fun ds Q E h=>?_) (fun cdv A outer s H E E3 hE hr=>?_),F.binds fun _ _ _ _ _ _ us hl=>by obtain⟨_,_,rfl⟩:=zaW hl;rfl,F.kp,hm⟩⟩
 . revert h;repeat' (first|exact fun h=>h|exact hQ _ _|exact hE _|refine Xl fun _=>?_|refine Xr ?_ ?_|refine forall_imp fun _=>?_)
 . obtain⟨_,_,rfl,_⟩:=h;rfl
 refine⟨_,(zd (s_if (zr (Jm hr.units) (zq zH rfl T.n_len zC (za (n3 0) zb)) (n3 1) (nomark _)) (ze (jo hE jv rfl rfl T.m_NoBounds T.e_NoBounds (za s3 zb))) zw)
  (ze (zy WaP rfl (zW (n3 0)) (jk (n:=2) rfl (zA (zl (i:=2) S.nd rfl #[2]) (zA (zl (i:=3) S.nd rfl #[2]) jj))) (ze (zy WaP rfl (zjL (zZ (za (n3 2) (za (n3 3) zb)))) (zl (i:=4) S.nd rfl #[2]) (ze (s_if (pw3 (zaQ (val3 (df3 hE b (hr.mono #[1]) rfl zp (za (n3 4) (za (g3t rfl T.m_LEAST_BOUND) zb)))) (zba (val3 (df3 hE b (hr.mono #[1]) rfl zp (za (g3t rfl T.m_MOST_BOUND) (za (n3 4) zb))))))) (ze (jo hE jv rfl rfl T.m_NoBounds T.e_NoBounds (za s3 zb))) zw))))))),fun ds Q h=>?_⟩
 obtain⟨l,n,rfl,hq,q,s⟩:=h
 walk_at "rd"
 rw [YaR]
 by_cases L:(l.length:Int)=n
 case neg=>rw [if_pos L];exact s fun z=>L (by rw [z.1])
 rw [if_neg (fun z=>z L)]
 refine jx dP l (fun done ρ=>∃ t u v,ρ = [some (.sh false (.list (l.map dP))),some (.sh true (.int n)),t,u,v]/\∀ p∈done,inQ p.1/\inQ p.2) ?_ ?_ ⟨none,none,none,rfl,fun x h=>by cases h⟩
 . rintro done x R ρ hd ⟨t,u,v,rfl,g⟩ W Y
   have H:x∈l:=by rw [hd];simp
   obtain⟨G,E⟩:=hq x H
   walk_at "rd"
   refine jx dQ [x.1,x.2] (fun e ρ=>∃ v,ρ = [some (.sh false (.list (l.map dP))),some (.sh true (.int n)),some (.sh false (dQ x.1)),some (.sh false (dQ x.2)),v]/\∀ r∈e,inQ r) ?_ ?_ ⟨_,rfl,fun x h=>by cases h⟩
   . rintro e r J ρ A ⟨v,rfl,hall'⟩ W' hW'
     have hr:okQ r:=by
      have:r∈[x.1,x.2]:=by rw [A];simp
      rcases Wbe.mp this with z|z
      . rw [z];exact G
      . rw [Ya6.mp z];exact E
     have B:inQ r\/¬okB n l:=by
      by_cases z:inQ r
      . exact .inl z
      . right
        intro y;have:r∈[x.1,x.2]:=by rw [A];simp
        rcases Wbe.mp this with w|w
        . rw [w] at z;exact z (y.2 x H).1
        . rw [Ya6.mp w] at z;exact z (y.2 x H).2
     have M:okQ (0,1):=⟨#[1],Bits.lit (x:=0) 1200,Bits.lit (x:=1) 1200⟩
     have O:okQ (10,1):=⟨#[1],Bits.lit (x:=10) 1200,Bits.lit (x:=1) 1200⟩
     walk_at "rd"
     refine⟨r,rfl,rfl,(0,1),rfl,rfl,hr,M,ite2 (fun h=>s (B.elim (fun z=>absurd h (by have:=z.1;show ¬r.1*1<0*r.2;lia)) id)) fun h=>⟨(10,1),rfl,rfl,r,rfl,rfl,O,hr,ite2 (fun h2=>s (B.elim (fun z=>absurd h2 (by have:=z.2;show ¬10*r.2<r.1*1;lia)) id)) fun h2=>hW' _ ⟨_,rfl,fun y Z=>?_⟩⟩⟩
     rcases Ya3.mp Z with z|z
     . exact hall' y z
     . rw [Ya6.mp z]
       have e1:¬r.1*1<0*r.2:=h;have e2:¬10*r.2<r.1*1:=h2;exact⟨#[94],#[94]⟩
   . rintro ρ ⟨v,rfl,hall'⟩
     exact Y _ ⟨_,_,_,rfl,fun p U=>by
      rcases Ya3.mp U with z|z
      . exact g p z
      . rw [Ya6.mp z];exact⟨hall' _ (by simp),hall' _ (by simp)⟩⟩
 . rintro ρ ⟨t,u,v,rfl,g⟩
   exact q ⟨#[94],g⟩
theorem zme(T:Txt c K mg):dd_room_at_most P w K mg base:=by
 obtain⟨f,fd,F,hm⟩:=T.d_room_at_most;have S:FnScope ["bottom", "bound"] ["bottom", "bound"] (zg (top 13)):=⟨rfl,rfl,rfl,#[3],rfl,#[3],#[3]⟩
 refine⟨fun ds Q Q' E E' hQ hE h=>?_,⟨f,fd,fn3 F S (fun ds Q E h=>?_) (fun cdv A outer s H E E3 hE hr=>?_),F.binds fun _ _ _ _ _ _ us hl=>by obtain⟨_,_,rfl⟩:=zaW hl;rfl,F.kp,hm⟩⟩
 . revert h;repeat' (first|exact fun h=>h|exact hQ _ _|exact hE _|refine Xl fun _=>?_|refine Xr ?_ ?_|refine forall_imp fun _=>?_)
 . obtain⟨_,_,rfl,_⟩:=h;rfl
 refine⟨_,(ze (zu (op3 zK (op3 zX (at3 (n3 1) i3 (fun _ _=>rfl)) (n3 0)) (at3 (n3 1) i3 (fun _ _=>rfl))))),fun j Q h=>?_⟩
 obtain⟨b,r,rfl,e,a,q⟩:=h
 walk_at "rd atI0 atI1"
 exact⟨a.2.1.mulOk e #[1],⟨a.1,a.2.2.mono #[1]⟩,q⟩
theorem ziG(T:Txt c K mg):dd_rooms_of c P w K mg base:=by
 have e:dd_check_bounds c P w K mg base:=zk3 T;have a:dd_room_at_most P w K mg base:=zme T;obtain⟨f,fd,F,hm⟩:=T.d_rooms_of;have S:FnScope ["told", "bounds", "bottom"] ["told", "bounds"] (zg (top 14)):=⟨rfl,rfl,rfl,#[3],rfl,#[3],#[3]⟩
 refine⟨fun ds Q Q' E E' hQ hE h=>?_,⟨f,fd,fn3 F S (fun ds Q E h=>?_) (fun cdv A outer s H E E3 hE hr=>?_),F.binds fun _ _ _ _ _ _ us hl=>by obtain⟨_,_,rfl⟩:=zaW hl;rfl,F.kp,hm⟩⟩
 . revert h;repeat' (first|exact fun h=>h|exact hQ _ _|exact hE _|refine Xl fun _=>?_|refine Xr ?_ ?_|refine forall_imp fun _=>?_)
 . obtain⟨_,_,_,_,rfl,_⟩:=h;rfl
 refine⟨_,(zd ((zk (i:=2) S.nd rfl #[2]) (at3 (n3 0) i3 (fun _ _=>rfl)))
  (zd (Z4 (df3 hE e (hr.mono #[1]) rfl zp (za (n3 1) (za (zq zH rfl T.n_len zC (za (at3 (at3 (n3 0) i3 (fun _ _=>rfl)) i3 (fun _ _=>rfl)) zb)) zb))))
  (ze (zu (new3 (jP ["below", "above"] ["bottom"] [2] rfl (z0 (osc:=zg (top 14)) #[3]) rfl (zW (n3 1)) (fun H0 s H W Y=>⟨(jk (n:=2) rfl (zA (zl (i:=0) (show((["below", "above"]:List Xk)++(["bottom"]:List Xk)).Nodup by decide) rfl #[2]) (zA (zl (i:=1) (show((["below", "above"]:List Xk)++(["bottom"]:List Xk)).Nodup by decide) rfl #[2]) jj))),jD,(zZ (za (df3 (E:=fun _ _ _=>False) (E3:=fun _=>False) (fun _ _ z _=>z) a (hr.mono #[1]) rfl jH (za (n3 2) (za (n3 0) zb))) (za (df3 (E:=fun _ _ _=>False) (E3:=fun _=>False) (fun _ _ z _=>z) a (hr.mono #[1]) rfl jH (za (n3 2) (za (n3 1) zb))) zb)))⟩))))))),fun ds Q h=>?_⟩
 refine Hd fun k O=>?_;obtain⟨b,y,l,n,rfl,hb,M,C,U,hl,J,q,v⟩:=h;apply O;have B:atI (y.map dI) 0=some (XB (y[0].map Xa)):=J9 (i:=0) #[0]
 have h0n:=C y[0] (Ya4 #[0])
 refine zj fun N g=>?_
 walk_at "rd atI0"
 refine g _ ?_
 clear g N;refine zj fun N g=>?_
 walk_at "rd atI1 B YaR h0n"
 refine⟨l,rfl,n,rfl,J,fun hok=>g _ ?_,v⟩
 clear g N
 walk_at "rd YaR"
 refine⟨sz #[0],?_⟩
 refine jt dP (fun p=>jJ (jC b p.1,jC b p.2)) (fun ρ=>∃ t u,ρ = [t,u,some (.sh true (.int b))]) l ?_ _ _ _ _ ⟨none,none,rfl⟩ ?_
 . rintro p L ρ Z R K ⟨t,u,rfl⟩ kk
   obtain⟨r,G⟩:=J p L
   walk_at "rd"
   exact⟨p.1,rfl,rfl,hb,r,p.2,rfl,rfl,hb,G,kk _ ⟨_,_,rfl⟩⟩
 . have:=q hok
   unfold zB at this;rw [YaD] at this;exact this
theorem ziV:FnScope ["spells", "bounds", "rules", "row", "told", "visits", "choices", "found"] ["spells", "bounds", "rules", "row"] (zg (top 55)):=⟨rfl,rfl,rfl,#[3],rfl,#[3],#[3]⟩
theorem zhK(T:Txt c K mg)(J:dd_quotas c P w K mg base)(j:dd_windows_within P w K mg base)(g:dd_choices_of_turns c P w K mg base)(B:dd_check_row c P w K mg base)(n:dd_place_visits P w K mg base)(u:dd_mend_visits c P w K mg base)(C:dd_rooms_of c P w K mg base)(F:Fun K "mended" "mended" (top 55) f fd):FnOk P w K mg base (CXR P w) 7 f fd ["spells", "bounds", "rules", "row"] (spU c.tb K (JX c)):=by
 have S:=ziV;refine fnU (cv:=fun v=>True) F trivial S (fun ds Q E h=>?_) (fun aj A ae s H E E3 ak tu Y G=>?_)
 . obtain⟨_,_,_,_,rfl,_⟩:=h;rfl
 refine⟨_,(zd ((zk (i:=4) S.nd rfl #[2]) (df3 Y J (G.mono #[1]) rfl zp (za (n3 0) zb)))
  (zd ((zk (i:=5) S.nd rfl #[2]) (df3 Y j (G.mono #[1]) rfl zp (za (n3 4) (za (df3 Y C (G.mono #[1]) rfl zp (za (n3 4) (za (n3 1) zb))) zb))))
  (zd ((zk (i:=6) S.nd rfl #[2]) (df3 Y g (G.mono #[1]) rfl zp (za (n3 4) (za (n3 5) (za (n3 2) zb)))))
  (zd (Z4 (df3 Y B (G.mono #[1]) rfl zp (za (n3 3) (za (zq zH rfl T.n_len zC (za (n3 6) zb)) (za (zq zH rfl T.n_len zC (za (n3 1) zb)) zb)))))
  (zd ((zk (i:=7) S.nd rfl #[2]) (df3 Y n (G.mono #[1]) rfl zp (za (n3 5) (za (n3 6) zb))))
  (zd (s_if (zr (Jm G.units) (at3 (n3 7) i3 (fun _ _=>rfl)) s3 (nomark _)) (ze (zu (n3 7))) zw)
  (ze (zu (dfU tu Y u (G.mono #[1]) rfl zp (za (n3 5) (za (n3 6) (za (n3 3) zb)))))))))))),fun ds Q h=>?_⟩
 refine Hd fun V ζ=>?_;obtain⟨l,bs,rs,row,rfl,al,ho,ab,aa,ah,q,ac,a9,a7,af⟩:=h;apply ζ;refine zj fun N I=>?_
 walk_at "rd"
 refine⟨l,rfl,fun m=>I _ ?_,ac⟩
 clear I N;have hm:=zcb m;have a6:=zbs m;have ai:=zby m;have am:=jM fun s hs=>(m.2.1 s hs).1
 have a8:=m.2.2;have Z:∀ r∈quo l,r.length=many l:=fun r G=>za8 m (b:=bot l) G
 have a0:Bits 2000 (bot l):=(zeg m).mono #[1]
 refine zj fun N I=>?_
 walk_at "rd"
 refine⟨quo l,rfl,bs,rfl,a0,#[0],many l,Z,hm.2,#[0],ho,fun hB=>?_,fun z=>a9 m z⟩
 have M:(zB (bot l) bs).length=many l:=by unfold zB;rw [YaR];exact hB.1
 refine⟨quo l,rfl,zB (bot l) bs,rfl,a6,a0,#[0],#[0],#[0],fun r G=>by rw [M];exact Z r G,fun r G x hx=>?_,fun p O=>?_,fun W w1 w2 w3=>I _ ?_⟩
 . have h1:=zgr m a6 r G x hx
   have h2:tot l*bot l<=60*bot l:=Ybe a8 #[0]
   omega
 . unfold zB at O
   obtain⟨z,hz,rfl⟩:=Ya7.mp O;obtain⟨z1,z2⟩:=hB.2 z hz;obtain⟨y1,y2⟩:=ho z hz;refine⟨Wa5 (YaK z1.1 #[0]) (by have:=y1.1;omega),Wa5 (YaK z2.1 #[0]) (by have:=y2.1;omega),?_⟩
   refine Wj y2.1 ?_
   have h1:z.2.1*bot l<=10*z.2.2*bot l:=Ybe z2.2 #[0]
   have h2:0<=z.2.2*bot l:=YaK (by have:=y2.1;omega) #[0]
   have e1:10*z.2.2*bot l=10*(z.2.2*bot l):=Wz _ _ _;have e2:20*bot l*z.2.2=20*(z.2.2*bot l):=by rw [Wz,WO (bot l)]
   omega
 clear I N;have hW:IsWs l bs W:=⟨by rw [<-M];exact w1,fun k hk=>w2 k (by rw [M];exact hk)⟩
 clear w1 w2;have ad:∀ v∈W.flatten,InR v.1 (many l):=fun v hv=>by
  obtain⟨k,hk,i,_,rfl⟩:=hW.get hv;exact⟨by show(0:Int)<=(k:Int);omega,by show(k:Int)<_;omega⟩
 have eT:(((tot l).toNat:Nat):Int)=tot l:=#[0]
 refine zj fun N I=>?_
 walk_at "rd"
 refine⟨quo l,rfl,W.flatten,rfl,rs,rfl,many l,(tot l).toNat,#[0],#[0],Z,hm.2,w3,ad,ab,aa,fun hR ch R L ag=>I _ ?_,fun hR=>a7 m hB fun z=>hR (by rw [eT];exact z)⟩
 clear I N;have a4:okRs (tot l) (many l) rs:=by rw [<-eT];exact hR
 refine zj fun N I=>?_
 walk_at "rd YaR"
 refine⟨row,rfl,ch.length,rfl,bs.length,rfl,fun a5=>I _ ?_,fun z=>af m hB a4 fun y=>z (by rw [R,hB.1];exact y)⟩
 clear I N;have U:z8 (many l) (tot l).toNat row:=by rw [<-R,<-hB.1];exact a5
 have q:=q m hB a4 U W hW ch R (fun X O=>(L X O).2.2) ag
 refine zj fun N I=>?_
 walk_at "rd"
 refine⟨W.flatten,rfl,ch,rfl,w3,#[0],fun X O=>⟨(L X O).1,(L X O).2.2⟩,fun d hd=>I _ ?_⟩
 clear I N
 rcases id hd with ⟨f,h1,h2,h3,rfl⟩|⟨S,_,_,_,_,_,rfl⟩|⟨S,_,_,_,_,_,rfl⟩
 . walk_at "rd"
   refine⟨W.flatten,rfl,ch,rfl,row,rfl,by rw [U.1,R],#[0],w3,fun X O=>⟨(L X O).2.1,(L X O).1,(L X O).2.2⟩,fun x=>((f x.toNat:Nat):Int),fun x hx=>(h1 x.toNat (by obtain⟨a,b⟩:=hx;omega)).2,fun x y hx hy e=>?_,fun tk hd tp vp a1 a2 a3=>q _ (.inr ⟨f,tk,hd,tp,vp,h1,h2,h3,a1,a2,a3,rfl⟩)⟩
   obtain⟨x0,x1⟩:=hx;obtain⟨y0,y1⟩:=hy;have e:f x.toNat=f y.toNat:=Int.ofNat.inj e;have:=h2 _ _ #[0] #[0] e
   omega
 . walk_at "rd"
   rw [if_pos #[1]]
   exact q _ (.inl ⟨hd,fun x z=>by injection z with z;injection z with z;injection z with z;exact absurd z #[1]⟩)
 . walk_at "rd"
   rw [if_pos #[1]]
   exact q _ (.inl ⟨hd,fun x z=>by injection z with z;injection z with z;injection z with z;exact absurd z #[1]⟩)
theorem zmm(T:Txt c K mg)(zn3:dd_quotas c P w K mg base)(zn7:dd_windows_within P w K mg base)(a:dd_choices_of_turns c P w K mg base)(i:dd_check_row c P w K mg base)(zn2:dd_place_visits P w K mg base)(g:dd_mend_visits c P w K mg base)(zn4:dd_rooms_of c P w K mg base):dd_mended c P w K mg base:=by
 obtain⟨f,fd,F,n⟩:=T.d_mended;have hb:=F.binds (ps:=["spells", "bounds", "rules", "row"]) fun _ _ _ _ _ _ z o=>by obtain⟨_,_,_,_,rfl⟩:=zaL o;rfl
 refine⟨fun y Q r E s hQ hE h=>?_,⟨f,fd,zhK T zn3 zn7 a i zn2 g zn4 F,hb,F.kp,n⟩⟩
 revert h;repeat' (first|exact fun h=>h|exact hQ _ _|exact hE _|refine Xl fun _=>?_|refine Xr ?_ ?_|refine forall_imp fun _=>?_)
theorem zmu(T:Txt c K mg):dd_law_within P w K mg base:=by
 obtain⟨f,fd,F,hm⟩:=T.d_law_within;have S:FnScope ["_law_bottom", "_law_share", "_law_bounds", "_law_had", "_law_k", "_law_below", "_law_above"] ["_law_bottom", "_law_share", "_law_bounds", "_law_had"] (zg (top 68)):=⟨rfl,rfl,rfl,#[3],rfl,#[3],#[3]⟩
 refine⟨fun ds Q Q' E E' hQ hE h=>?_,⟨f,fd,fn3 F S (fun ds Q E h=>?_) (fun cdv A outer s H E E3 hE hr=>?_),F.binds fun _ _ _ _ _ _ us hl=>by obtain⟨_,_,_,_,rfl⟩:=zaL hl;rfl,F.kp,hm⟩⟩
 . revert h;repeat' (first|exact fun h=>h|exact hQ _ _|exact hE _|refine Xl fun _=>?_|refine Xr ?_ ?_|refine forall_imp fun _=>?_)
 . obtain⟨_,_,_,_,_,rfl,_⟩:=h;rfl
 refine⟨_,(zd (zy WaP rfl (jh rfl T.n_range (za (zq zH rfl T.n_len zC (za (n3 2) zb)) zb)) (zl (i:=4) S.nd rfl #[2]) (zd (zgf (at3 (n3 2) (n3 4) (fun _ _=>rfl)) (jk (n:=2) rfl (zA (zl (i:=5) S.nd rfl #[2]) (zA (zl (i:=6) S.nd rfl #[2]) jj))))
  (zd (s_if (zr JB (op3 zX (op3 jT (at3 (n3 1) (n3 4) (fun _ _=>rfl)) (op3 zX (at3 (n3 3) (n3 4) (fun _ _=>rfl)) (n3 0))) (at3 (n3 5) i3 (fun _ _=>rfl))) (op3 zX (at3 (n3 5) i3 (fun _ _=>rfl)) (n3 0)) (nomark _)) (ze (zu b3)) zw)
  (ze (s_if (zr JB (op3 zX (op3 jT (op3 zX (at3 (n3 3) (n3 4) (fun _ _=>rfl)) (n3 0)) (at3 (n3 1) (n3 4) (fun _ _=>rfl))) (at3 (n3 6) i3 (fun _ _=>rfl))) (op3 zX (at3 (n3 6) i3 (fun _ _=>rfl)) (n3 0)) (nomark _)) (ze (zu b3)) zw)))))
  (ze (zu b3))),fun ds Q h=>?_⟩
 refine Hd fun G g=>?_;obtain⟨b,q,a,c,n,rfl,h8,hq,hc,Y,R,l,I,ho,q0⟩:=h;apply g;(refine zj fun N hN=>?_)
 walk_at "rd YaR Y"
 refine⟨#[0],#[0],?_⟩
 rw [Xi];refine ja (fun i ρ=>∃ (Z O J:Option L3.Cl),ρ = [some (.sh true (.int b)),some (.sh false (.list (q.map .int))),some (.sh false (.list (a.map dP))),some (.sh false (.tuple (c.map .int))),Z,O,J]/\∀ (k:Nat) (p:Rat2×Rat2),k<i->a[k]?=some p->(q.getD k 0 - c.getD k 0*b)*p.1.2<=p.1.1*b/\(c.getD k 0*b - q.getD k 0)*p.2.2<=p.2.1*b) ?_ ?_ ⟨_,_,_,rfl,fun k p h=>absurd h #[0]⟩
 . rintro i ρ hi ⟨Z,O,J,rfl,s⟩ W hW
   have hib:i<a.length:=#[0]
   have hbi:=zcz dP hib;have j:=ho _ (Ya4 hib);have E:a[i]?=some a[i]:=YaQ hib;have ha:=jU (xs:=q) (i:=0+(i:Int)) #[0] #[0]
   have B:=jU (xs:=c) (i:=0+(i:Int)) #[0] #[0]
   rw [show(0+(i:Int)).toNat=i by omega] at ha B
   have v:Bits 1000 (q.getD i 0):=R _ (Ja #[0])
   have l:=l i hi;have hm:=l.mulOk I #[1]
   have C:¬((q.getD i 0 - c.getD i 0*b)*a[i].1.2<=a[i].1.1*b/\(c.getD i 0*b - q.getD i 0)*a[i].2.2<=a[i].2.1*b)->Q true (PyData.bool false):=fun z=>q0 false ⟨(fun y=>by cases y),fun y=>absurd (y i _ E) z⟩
   have good:((q.getD i 0 - c.getD i 0*b)*a[i].1.2<=a[i].1.1*b/\(c.getD i 0*b - q.getD i 0)*a[i].2.2<=a[i].2.1*b)->∀ (k:Nat) (p:Rat2×Rat2),k<i+1->a[k]?=some p->(q.getD k 0 - c.getD k 0*b)*p.1.2<=p.1.1*b/\(c.getD k 0*b - q.getD k 0)*p.2.2<=p.2.1*b:=fun z k p' hk u=>by
    by_cases e:k<i
    . exact s k p' e u
    . obtain rfl:k=i:=#[0]
      rw [E] at u;cases u;exact z
   generalize q.getD i 0=qv at *;generalize c.getD i 0=cv at *;generalize a[i]=p at *;have hvB:Bits 1000 (cv*b):=(l.mul I).mono #[1]
   have M:=v.sub hvB;have X:=hvB.sub v
   ((try dsimp only [lE,fE,gn3,Xf,Xc,Xg,Xh,zt,Wbh,Wbv]);try simp only [lE,fE,gn3,Xf,Xc,Xg,Xh,zt,Wbw])
   refine zj fun N' H=>?_
   walk_at "rd hbi"
   refine H _ ?_
   clear H N'
   walk_at "rd ha B"
   refine⟨hm,M.mulOk j.1.2.2 #[1],j.1.2.1.mulOk I #[1],ite2 (fun h=>C fun z=>absurd z.1 #[0]) fun h=>⟨hm,X.mulOk j.2.2.2 #[1],j.2.2.1.mulOk I #[1],ite2 (fun h2=>C fun z=>absurd z.2 #[0]) fun h2=>hW _ ⟨_,_,_,rfl,good ⟨#[0],#[0]⟩⟩⟩⟩
 . rintro ρ ⟨Z,O,J,rfl,s⟩
   refine hN _ ?_
   walk_at "rd"
   exact q0 true ⟨fun _ k p u=>s k p (by have:=(Ya8.mp u).1;omega) u,fun _=>rfl⟩
theorem znh(T:Txt c K mg):dd_law_lets P w K mg base:=by
 obtain⟨f,fd,F,hm⟩:=T.d_law_lets;have S:FnScope ["_law_rules_here", "_law_t", "_law_clan", "_law_word", "_law_turn", "_law_who"] ["_law_rules_here", "_law_t", "_law_clan"] (zg (top 67)):=⟨rfl,rfl,rfl,#[3],rfl,#[3],#[3]⟩
 refine⟨fun ds Q Q' E E' hQ hE h=>?_,⟨f,fd,fn3 F S (fun ds Q E h=>?_) (fun cdv A outer s H E E3 hE hr=>?_),F.binds fun _ _ _ _ _ _ us hl=>by obtain⟨_,_,_,rfl⟩:=zbf hl;rfl,F.kp,hm⟩⟩
 . revert h;repeat' (first|exact fun h=>h|exact hQ _ _|exact hE _|refine Xl fun _=>?_|refine Xr ?_ ?_|refine forall_imp fun _=>?_)
 . obtain⟨_,_,_,rfl,_⟩:=h;rfl
 refine⟨_,(zd (zy WaP rfl (zW (n3 0)) (jk (n:=3) rfl (zA (zl (i:=3) S.nd rfl #[2]) (zA (zl (i:=4) S.nd rfl #[2]) (zA (zl (i:=5) S.nd rfl #[2]) jj)))) (ze (s_if (pw3 (zbR (zr (jn hr.units) (n3 4) (n3 1) (nomark _)) (zbP (zr (Jm hr.units) (cmp3 (jn hr.units) (n3 3) s3 (nomark _)) (cmp3 (jn hr.units) (n3 5) (n3 2) (nomark _)) (nomark _))))) (ze (zu b3)) zw)))
  (ze (zu b3))),fun Y Q h=>?_⟩
 obtain⟨l,t,c,rfl,M,R,q⟩:=h;refine z5 (fun ρ=>(∃ s t4 t5:Option L3.Cl,ρ = [some (.sh false (.list (l.map dRl))),some (.sh true (.int t)),some (.sh true (.int c)),s,t4,t5])/\¬jz l t c) (fun N W=>?_) ?_
 . walk_at "rd"
   refine jx dRl l (fun g ρ=>(∃ s t4 t5:Option L3.Cl,ρ = [some (.sh false (.list (l.map dRl))),some (.sh true (.int t)),some (.sh true (.int c)),s,t4,t5])/\¬jz g t c) ?_ (fun ρ h=>W ρ h) ⟨⟨none,none,none,rfl⟩,fun⟨r,h,_⟩=>by cases h⟩
   rintro g r rest ρ hd ⟨⟨s,t4,t5,rfl⟩,hf⟩ V hV
   have hr:r∈l:=by rw [hd];simp
   have B:=R r hr;have no:¬(r.2.1=t/\(c=r.2.2↔r.1 = "barred"))->¬jz (g++[r]) t c:=fun h ⟨x,hx,e⟩=>by
    rcases Ya3.mp hx with z|z
    . exact hf ⟨x,z,e⟩
    . rw [Ya6.mp z] at e;exact h e
   have v:r.2.1=t/\(c=r.2.2↔r.1 = "barred")->Q true (.bool false):=fun h=>q false ⟨fun z=>(by cases z),fun z=>absurd ⟨r,hr,h⟩ z⟩
   have go:¬(r.2.1=t/\(c=r.2.2↔r.1 = "barred"))->V [some (.sh false (.list (l.map dRl))),some (.sh true (.int t)),some (.sh true (.int c)),some (.sh true (.str r.1)),some (.sh true (.int r.2.1)),some (.sh true (.int r.2.2))]:=fun h=>hV _ ⟨⟨_,_,_,rfl⟩,no h⟩
   have J:∀ a b:Bool,XL (.bool a) (.bool b)=(a==b):=#[3]
   have H:∀ b:Bool,Xt (.bool b)=true:=#[3]
   have E:(c=r.2.2↔r.1 = "barred")↔((decide (r.1 = "fixed")==decide (r.2.2=c))=false):=by
    rcases B with w|w
    . rw [decide_eq_true w]
      by_cases z:r.2.2=c
      . rw [decide_eq_true z];exact⟨fun h=>absurd (w.symm.trans (h.mp z.symm)) JZ,fun h=>by cases h⟩
      . rw [decide_eq_false z];exact⟨fun _=>rfl,fun _=>⟨fun y=>absurd y.symm z,fun y=>absurd (w.symm.trans y) JZ⟩⟩
    . rw [decide_eq_false fun y=>JZ (y.symm.trans w)]
      by_cases z:r.2.2=c
      . rw [decide_eq_true z];exact⟨fun _=>rfl,fun _=>⟨fun _=>w,fun _=>z.symm⟩⟩
      . rw [decide_eq_false z];exact⟨fun h=>absurd (h.mpr w).symm z,fun h=>by cases h⟩
   walk_at "rd"
   rw [J];exact ite2 (fun e=>⟨H _,H _,ite2 (fun z=>v ⟨e,E.mpr z⟩) fun z=>go fun h=>z (E.mp h.2)⟩) fun e=>go fun h=>e h.1
 . rintro ρ ⟨⟨s,t4,t5,rfl⟩,hf⟩
   walk_at "rd"
   exact q true ⟨fun _=>hf,fun _=>rfl⟩
theorem zjQ(T:Txt c K mg):dd_law_fewest P w K mg base:=by
 have zn0:dd_law_within P w K mg base:=zmu T;have znY:dd_law_lets P w K mg base:=znh T;obtain⟨f,fd,F,hm⟩:=T.d_law_fewest;have S:FnScope ["_law_bottom", "_law_rows", "_law_bounds", "_law_rules_here", "_law_row_here", "_law_clans", "_law_known", "_law_t", "_law_later", "_law_had", "_law_k", "_law_now", "_law_good", "_law_changes"] ["_law_bottom", "_law_rows", "_law_bounds", "_law_rules_here", "_law_row_here"] (zg (top 69)):=⟨rfl,rfl,rfl,#[3],rfl,#[3],#[3]⟩
 refine⟨fun ds Q Q' E E' hQ hE h=>?_,⟨f,fd,fn3 F S (fun ds Q E h=>?_) (fun cdv A outer s H E E3 hE hr=>?_),F.binds fun _ _ _ _ _ _ us hl=>by obtain⟨_,_,_,_,_,rfl⟩:=zdw hl;rfl,F.kp,hm⟩⟩
 . revert h;repeat' (first|exact fun h=>h|exact hQ _ _|exact hE _|refine Xl fun _=>?_|refine Xr ?_ ?_|refine forall_imp fun _=>?_)
 . obtain⟨_,_,_,_,rfl,_⟩:=h;rfl
 refine⟨_,(zd ((zk (i:=5) S.nd rfl #[2]) (zq zH rfl T.n_len zC (za (n3 2) zb)))
  (zd (zc2 (i:=6) S.nd rfl #[2])
  (zd (zgT (i:=6) (zT hr) rfl #[2] (znl (zZ (za i3 zb)) (n3 5)) i3)
  (zd (zy WaP rfl (Z8 rfl T.n_range (za i3 (za (zq zH rfl T.n_len zC (za (n3 1) zb)) zb))) (zl (i:=7) S.nd rfl #[2]) (zd (zc2 (i:=8) S.nd rfl #[2])
   (zd (zdU 6 (zy WaP rfl (zfF (i:=6) rfl #[2]) (zl (i:=9) S.nd rfl #[2]) (ze (zy WaP rfl (jh rfl T.n_range (za (n3 5) zb)) (zl (i:=10) S.nd rfl #[2]) (zd ((zk (i:=11) S.nd rfl #[2]) (zfd (zfd (zeL (n3 9) zbN (zbn (n3 10))) (zZ (za (op3 zU (at3 (n3 9) (n3 10) (fun _ _=>rfl)) i3) zb))) (zeL (n3 9) (zbn (op3 zU (n3 10) i3)) zbN)))
    (zd ((zk (i:=12) S.nd rfl #[2]) (df3 hE zn0 (hr.mono #[1]) rfl zp (za (n3 0) (za (at3 (n3 1) (n3 7) (fun _ _=>rfl)) (za (n3 2) (za (n3 11) zb))))))
    (ze (s_if (pw3 (zbR (val3 (n3 12)) (zbP (val3 (df3 hE znY (hr.mono #[1]) rfl zp (za (n3 3) (za (n3 7) (za (n3 10) zb)))))))) (zd ((zk (i:=13) S.nd rfl #[2]) (op3 zU (zg4 (i:=6) (zT hr) rfl #[2] (n3 9)) (zj3 zlc rfl T.n_int zhV (za (cmp3 (Jm hr.units) (at3 (n3 4) (op3 jT (n3 7) i3) (fun _ _=>rfl)) (n3 10) (nomark _)) zb))))
     (ze (zgT (i:=8) (zT hr) rfl #[2] (n3 11) (zq (zhc rfl) rfl T.n_min zgg (za (n3 13) (za (zkc (i:=8) (zT hr) rfl #[2] (n3 11) (n3 13)) zb)))))) zw))))))))
   (ze (zmG (i:=6) (j:=8) #[1] S.nd rfl #[2] rfl #[2])))))
  (ze (zdU 6 (zu (mnD rfl rfl T.n_min (new3 (jP ["_law_had"] ["_law_known"] [6] rfl (z0 (osc:=zg (top 69)) #[3]) rfl (zfF (i:=6) rfl #[2]) (fun H0 s H fp cl=>⟨(zl (i:=0) (show((["_law_had"]:List Xk)++(["_law_known"]:List Xk)).Nodup by decide) rfl #[2]),jD,(zg4 (i:=1) (zT hr) rfl #[2] (n3 0))⟩))))))))))),fun ds Q h=>?_⟩
 obtain⟨l,bs,rs,row,rfl,hok,h3,h6,hbs,ho,hR,htx,hrow,q⟩:=h;have hm:=zcb hok;have hpb:=zbu hok;have hql:=zbX hok (zi l);have hqB:=zgy hok;have htn:=jM fun s hs=>(hok.2.1 s hs).1
 have hrl:=hrow.1;have hrg:=fun y=>zkN hok hbs hR hrow (y:=y)
 refine zj fun N hN=>?_
 walk_at "rd YaR hbs"
 refine hN _ ?_;clear hN N;refine zj fun N hN=>?_;walk_at "rd"
 refine hN _ ?_;clear hN N;refine zj fun N hN=>?_;walk_at "rd"
 have hk0:XI (Xb ((many l:Int)).toNat [Xa 0]).flatten=keyT ((Xb (many l) (0:Int)).map Xn):=by
  rw [zaz,Xi,Yaz]
  congr 1
  generalize many l=k
  induction k with
  | zero=>rfl
  | succ k ih=>rw [Ws,List.flatten_cons,ih];rfl
 refine⟨by simp,#[0],#[0],#[0],_,hk0,#[1],hN _ ?_⟩
 clear hN N;have e0:putT [] ((Xb (many l) (0:Int)).map Xn) (.int 0)=encT [(Xb (many l) 0,0)]:=zhk [] _ 0;rw [e0];clear e0 hk0;refine z5 (fun ρ=>∃ (tb:Tab),ρ = fE l bs rs row [some (.dt (encT tb)),sl ρ 7,none,sl ρ 9,sl ρ 10,sl ρ 11,sl ρ 12,sl ρ 13]/\z7 tb (RchF (okF (zi l) (quoB (zi l) l) bs rs) (coF row) (many l) (tot l).toNat)/\tb.length<=4 ^ 6) (fun N hN=>?_) ?_
 . walk_at "rd YaR"
   refine⟨#[1],#[1],#[0],#[0],?_⟩
   rw [show(((quoB (zi l) l).length:Int) - 1).toNat=(tot l).toNat by omega]
   refine ja (fun t ρ=>∃ (tb:Tab),ρ = fE l bs rs row [some (.dt (encT tb)),sl ρ 7,none,sl ρ 9,sl ρ 10,sl ρ 11,sl ρ 12,sl ρ 13]/\z7 tb (RchF (okF (zi l) (quoB (zi l) l) bs rs) (coF row) (many l) t)/\tb.length<=4 ^ t) ?_ ?_ ⟨_,rfl,z7.zero,YaY 1⟩
   . rintro t ρ ht ⟨tb,ee,hG,hlen⟩ W hW
     generalize sl ρ = s87 at ee;subst ee;have hT4:tb.length<=4 ^ 6:=Ya5 hlen (Yk #[1] #[0])
     ((try dsimp only [lE,fE,gn3,Xf,Xc,Xg,Xh,zt,Wbh,Wbv]);try simp only [lE,fE,gn3,Xf,Xc,Xg,Xh,zt,Wbw])
     refine zj fun N' hN'=>?_
     walk_at "rd"
     refine hN' _ ?_
     clear hN' N';have hq1:atI ((quoB (zi l) l).map dI) (1+(t:Int))=some (XB (((quoB (zi l) l)[t+1]'(by omega)).map Xa)):=by
      have:=J9 (rows:=quoB (zi l) l) (i:=t+1) #[0]
      rwa [show((t+1:Nat):Int)=1+(t:Int) by omega] at this
     have hq2:(quoB (zi l) l).getD (t+1) []=(quoB (zi l) l)[t+1]'(by omega):=by rw [YaP,YaQ #[0]];rfl
     have hq3:=hqB _ (Ya4 (show t+1<(quoB (zi l) l).length by omega))
     generalize (quoB (zi l) l)[t+1]'(by omega)=qr at hq1 hq2 hq3
     refine z5 (fun ρ=>∃ (later:Tab),ρ = fE l bs rs row [some (.fd (encT tb)),some (.sh true (.int ((1+(t:Int))))),some (.dt (encT later)),sl ρ 9,sl ρ 10,sl ρ 11,sl ρ 12,sl ρ 13]/\z7 later (fun c' y'=>∃ p∈tb,∃ k,k<many l/\j7 (okF (zi l) (quoB (zi l) l) bs rs) (coF row) t tb p.1 k c' y')/\later.length<=3*tb.length) (fun N' hN'=>?_) ?_
     . walk_at "rd"
       rw [zeJ];refine jx (fun p=>XI (p.1.map Xa)) tb (fun done ρ=>∃ (later:Tab),ρ = fE l bs rs row [some (.fd (encT tb)),some (.sh true (.int ((1+(t:Int))))),some (.dt (encT later)),sl ρ 9,sl ρ 10,sl ρ 11,sl ρ 12,sl ρ 13]/\z7 later (fun c' y'=>∃ p∈done,∃ k,k<many l/\j7 (okF (zi l) (quoB (zi l) l) bs rs) (coF row) t tb p.1 k c' y')/\later.length<=3*done.length) ?_ ?_ ?_;rotate_left;exact fun ρ h=>hN' _ h;exact⟨[],rfl,fun c=>⟨fun m h=>(by cases h),fun y h=>(by obtain⟨p,hp,_⟩:=h;cases hp)⟩,Wby _⟩
       rintro done p rest ρ hd ⟨later,ee,hL,hll⟩ W' hW'
       generalize sl ρ = s106 at ee;subst ee;obtain⟨y,hy⟩:=zdY (show p∈tb by rw [hd];simp)
       have hRc:=((hG p.1).1 y hy).1;have hcl:=hRc.len;have hdl:done.length<tb.length:=by rw [hd,YaS,Xq];omega
       simp only [fE,Xf,Xc]
       walk_at "rd"
       refine⟨#[0],#[0],?_⟩
       rw [Xi];refine ja (fun j ρ=>∃ (later:Tab),ρ = fE l bs rs row [some (.fd (encT tb)),some (.sh true (.int ((1+(t:Int))))),some (.dt (encT later)),some (.sh true (.tuple (p.1.map Xa))),sl ρ 10,sl ρ 11,sl ρ 12,sl ρ 13]/\z7 later (fun c' y'=>(∃ p∈done,∃ k,k<many l/\j7 (okF (zi l) (quoB (zi l) l) bs rs) (coF row) t tb p.1 k c' y')\/∃ k,k<j/\j7 (okF (zi l) (quoB (zi l) l) bs rs) (coF row) t tb p.1 k c' y')/\later.length<=3*done.length+j) ?_ ?_ ⟨later,rfl,hL.iff fun c y=>⟨fun z=>z.resolve_right fun⟨k,hk,_⟩=>absurd hk (Yz k),.inl⟩,#[0]⟩
       . rintro k ρ hk ⟨later',ee,hL',hll'⟩ V hV
         generalize sl ρ = s118 at ee;subst ee
         ((try dsimp only [lE,fE,gn3,Xf,Xc,Xg,Xh,zt,Wbh,Wbv]);try simp only [lE,fE,gn3,Xf,Xc,Xg,Xh,zt,Wbw])
         have s1:HT.sIx p.1.length p.1.length (some (0+(k:Int)))=k:=by rw [Wbr,HT.sIx_nat];omega
         have s2:HT.sIx p.1.length 0 (some (0+(k:Int)+1))=k+1:=by
          have:=HT.sIx_nat p.1.length 0 (k+1);rw [show((k+1:Nat):Int)=0+(k:Int)+1 by omega] at this
          rw [this];omega
         have ha:atI (p.1.map Xa) (0+(k:Int))=some (Xa (p.1[k]'(by omega))):=zb4 #[0]
         have hnow:=zkE (c:=p.1) (k:=k) (i:=0+(k:Int)) (j:=0+(k:Int)+1) #[0] #[0] #[0] (YaQ #[0])
         generalize (p.1[k]'(by omega))=x at ha hnow
         have hnl:(had1 1 p.1 k).length=many l:=by rw [zf3];exact hcl
         have hl1:=congrArg Ya hnow;rw [YaS,YaR,hnl] at hl1;have hl2:=hl1;rw [YaS,Xm] at hl2;have hcs:=hRc.small1 hk;refine zj fun N'' hN''=>?_
         walk_at "rd YaR ha"
         refine⟨fun z=>by rw [s1] at z;omega,sz #[0],fun z=>by rw [s2] at z;omega,sz (by rw [hl1];omega),hN'' _ ?_⟩
         clear hN'' N'' s1 s2 ha hl1 hl2;rw [hnow];clear hnow;have hnx:∀ c' y',j7 (okF (zi l) (quoB (zi l) l) bs rs) (coF row) t tb p.1 k c' y'↔(wiP (zi l) qr bs (had1 1 p.1 k)/\¬jz rs ((t:Int)+1) k)/\c'=had1 1 p.1 k/\y'=y+coF row t k:=fun c' y'=>by
          unfold j7 okF;rw [hy,hq2]
          constructor
          . rintro⟨y,e,rfl,a,rfl⟩
            cases e;exact⟨a,rfl,rfl⟩
          . rintro⟨a,rfl,rfl⟩
            exact⟨_,rfl,rfl,a,rfl⟩
         generalize had1 1 p.1 k=nw at hnl hcs hnx ⊢;refine zj fun N'' hN''=>?_
         walk_at "rd hq1"
         refine⟨qr,rfl,bs,rfl,nw,rfl,many l,#[0],hq3.1,hnl,hbs,hq3.2,fun i hi=>Bits.lit (x:=nw.getD i 0) 64 (by have:=hcs i hi;omega),hpb,ho,fun r hr=>hN'' _ ?_⟩
         clear hN'' N'';have no:¬(wiP (zi l) qr bs nw/\¬jz rs ((t:Int)+1) k)->z7 later' fun c' y'=>(∃ p∈done,∃ k,k<many l/\j7 (okF (zi l) (quoB (zi l) l) bs rs) (coF row) t tb p.1 k c' y')\/∃ k',k'<k+1/\j7 (okF (zi l) (quoB (zi l) l) bs rs) (coF row) t tb p.1 k' c' y':=fun z=>hL'.iff fun c' y'=>or_congr_right ⟨fun⟨k',hk',h⟩=>⟨k',by
          rcases Ut k' k with e|e
          . exact e
          . obtain rfl:k'=k:=#[0]
            exact absurd ((hnx _ _).mp h).1 z,h⟩,fun⟨k',hk',h⟩=>⟨k',#[0],h⟩⟩
         have hat:atI (row.map Xa) (1+(t:Int) - 1)=some (Xa (row.getD t 0)):=by
          have:=jU (xs:=row) (i:=1+(t:Int) - 1) #[0] #[0]
          rwa [show(1+(t:Int) - 1).toNat=t by omega] at this
         walk_at "rd hat"
         refine ite2 (fun hr1=>⟨rs,rfl,htx,fun r hr=>(hR r hr).1,fun b hb=>?_⟩) fun hr0=>hV _ ⟨later',rfl,no fun z=>hr0 (hr.mpr z.1),#[0]⟩
         rw [Int.add_comm 1,Wbr] at hb;refine ite2 (fun hb1=>⟨p.1.map Xn,(zaz _).symm,.int y,by rw [zcQ,hy];rfl,?_⟩) fun hb0=>hV _ ⟨later',rfl,no fun z=>hb0 (hb.mpr z.2),#[0]⟩
         walk_at "rd"
         have hco:(y+if ¬row.getD t 0=0+(k:Int) then 1 else 0)=y+coF row t k:=by
          unfold coF;rw [Wbr]
          by_cases e:row.getD t 0=(k:Int)<;>simp [e]
         rw [hco];generalize y+coF row t k=cz at hnx ⊢;refine⟨nw.map Xn,(zaz _).symm,?_⟩;have hg:(getT (encT later') (nw.map Xn)).getD (Xa cz)=Xa ((getI later' nw).getD cz):=by rw [zcQ];cases getI later' nw<;>rfl
         rw [hg];have hel:(encT later').length=later'.length:=by unfold encT;rw [YaR]
         refine⟨nw.map Xn,(zaz _).symm,YaU (show _<1000000 by omega) #[1],hV _ ⟨upd1 later' nw cz,by rw [zhk];rfl,?_,?_⟩⟩
         . refine hL'.put nw cz fun c' y'=>⟨?_,?_⟩
           . rintro(a|⟨k',hk',h⟩)
             . exact .inl (.inl a)
             . rcases Ut k' k with e|e
               . exact .inl (.inr ⟨k',e,h⟩)
               . obtain rfl:k'=k:=#[0]
                 exact .inr ((hnx _ _).mp h).2
           . rintro((a|⟨k',hk',h⟩)|e)
             . exact .inl a
             . exact .inr ⟨k',#[0],h⟩
             . exact .inr ⟨k,WaV k,(hnx _ _).mpr ⟨⟨hr.mp hr1,hb.mp hb1⟩,e⟩⟩
         . have:=zkJ later' nw (if(getI later' nw).getD cz<cz then(getI later' nw).getD cz else cz)
           unfold upd1
           omega
       . rintro ρ ⟨later',ee,hL',hll'⟩
         generalize sl ρ = s194 at ee;subst ee;refine hW' _ ⟨later',rfl,hL'.iff fun c y=>?_,?_⟩
         . constructor
           . rintro⟨p',hp',k,hk,z⟩
             rcases Ya3.mp hp' with e|e
             . exact .inl ⟨p',e,k,hk,z⟩
             . rw [Ya6.mp e] at z
               exact .inr ⟨k,hk,z⟩
           . rintro(⟨p',hp',z⟩|⟨k,hk,z⟩)
             . exact⟨p',Yai _ hp',z⟩
             . exact⟨p,by simp,k,hk,z⟩
         . rw [YaS,Xm]
           omega
     rintro ρ ⟨later,ee,hL,hll⟩
     generalize sl ρ = s209 at ee;subst ee;simp only [fE,Xf,Xc]
     walk_at "rd"
     refine hW _ ⟨later,rfl,hG.next hL,?_⟩
     rw [Nat.pow_succ]
     omega
   . rintro ρ ⟨tb,ee,hG,hlen⟩
     generalize sl ρ = s217 at ee;subst ee;exact hN _ ⟨tb,rfl,hG,Ya5 hlen (Yk #[1] #[0])⟩
 rintro ρ ⟨tb,ee,hG,hlen⟩
 generalize sl ρ = s221 at ee;subst ee;simp only [fE,Xf,Xc]
 walk_at "rd"
 rw [zeJ];refine⟨sz (by rw [YaR];omega),?_⟩
 refine jt (fun p:List Int×Int=>XI (p.1.map Xa)) (fun p=>Xa ((getI tb p.1).getD 0)) (fun ρ=>∃ t,ρ = [t,some (.fd (encT tb))]) tb ?_ _ _ _ _ ⟨none,rfl⟩ ?_
 . rintro p hp ρ fa acc K ⟨t,rfl⟩ kk
   obtain⟨y,hy⟩:=zdY hp
   walk_at "rd"
   refine⟨p.1.map Xn,(zaz _).symm,.int y,by rw [zcQ,hy];rfl,?_⟩
   have e:(getI tb p.1).getD 0=y:=by rw [hy];rfl
   rw [e] at kk;exact kk _ ⟨_,rfl⟩
 . refine⟨tb.map fun p=>(getI tb p.1).getD 0,?_,fun z=>q _ (.inl ⟨rfl,fun r hr=>?_⟩),fun z=>q _ (.inr ⟨_,rfl,?_⟩)⟩
   . have:=jX (tb.map fun p=>(getI tb p.1).getD 0)
     rw [YaD] at this;exact this
   . obtain⟨c,hc⟩:=(hrg _).mpr ⟨r,hr,rfl⟩
     have:=(hG c).2 _ hc;rw [List.map_eq_nil_iff.mp z] at this;cases this
   . obtain⟨m1,m2⟩:=hG.min fun y=>z (by rw [y];rfl)
     obtain⟨r,hr,e⟩:=(hrg _).mp m1;refine⟨⟨r,hr,e.symm⟩,fun r' hr'=>?_⟩
     obtain⟨c,hc⟩:=(hrg _).mpr ⟨r',hr',rfl⟩;exact m2 c _ hc
theorem zkp:FnScope ["_law_script", "_law_spells_here", "_law_length", "_law_weights", "_law_bottom", "_law_rows", "_law_place", "_law_cell", "_law_row_here", "_law_other", "_law_some", "_law_bounds", "_law_rules_here", "_law_found", "_law_due"] ["_law_script"] (zg zb0):=⟨rfl,rfl,rfl,#[3],rfl,#[3],#[3]⟩
theorem zjH(T:Txt c K mg)(G:dd_law_spells P w K mg base)(C:dd_law_quotas P w K mg base)(B:dd_law_row P w K mg base)(I:dd_law_limits P w K mg base)(M:dd_law_rules P w K mg base)(X:dd_mended c P w K mg base)(J:dd_law_fewest P w K mg base)(g:dd_law_cell_at P w K mg base)(F:Fun K "law" "law" zb0 f fd):FnOk P w K mg base (CXR P w) 8 f fd ["_law_script"] (spU c.tb K Jt):=by
 have S:=zkp;refine fnU (cv:=fun v=>True) F trivial S (fun ds Q E h=>?_) (fun ar A ah s H E E3 as tu Z L=>?_)
 . obtain⟨_,rfl,_⟩:=h;rfl
 refine⟨_,(zd ((jq (i:=1) S.nd rfl #[2]) (jg zb))
  (zd (zy WaP rfl (zW (df3 Z G (L.mono #[1]) rfl zp (za (n3 0) (za i3 zb)))) (jk (n:=2) rfl (zA (zl (i:=2) S.nd rfl #[2]) (zA (zl (i:=3) S.nd rfl #[2]) jj))) (ze (s_if (zr JB (zq (JA rfl) rfl T.n_sum Jw (za (new3 (zep (n3 3) zbN (zbn i3))) zb)) i3 (nomark _)) (ze (jF (i:=1) rfl #[2] (zZ (za (n3 2) (za (new3 (zep (n3 3) zbN (zbn i3))) zb))))) zw)))
  (zd (s_if (zr (jn L.units) (zq zH rfl T.n_len zC (za (n3 1) zb)) i3 (nomark _)) (ze (jF (i:=1) rfl #[2] (zZ (za i3 (za (new3 (jg (za i3 (za i3 (za i3 zb))))) zb))))) zw)
  (zd (jA [1] (zgf (df3 Z C (L.mono #[1]) rfl zp (za (n3 1) zb)) (jk (n:=2) rfl (zA (zl (i:=4) S.nd rfl #[2]) (zA (zl (i:=5) S.nd rfl #[2]) jj)))))
  (zd (zy WaP rfl (Z8 rfl T.n_range (za i3 (za i3 zb))) (zl (i:=6) S.nd rfl #[2]) (zd ((zk (i:=7) S.nd rfl #[2]) (op3 zU (df3 Z g (L.mono #[1]) rfl zp (za (n3 0) (za (n3 6) zb))) (n3 6)))
   (zd ((zk (i:=8) S.nd rfl #[2]) (df3 Z B (L.mono #[1]) rfl zp (za (n3 4) (za (n3 5) (za (n3 7) zb)))))
   (zd ((zk (i:=9) S.nd rfl #[2]) (df3 Z B (L.mono #[1]) rfl zp (za (n3 4) (za (n3 5) (za (op3 zU (op3 zK (n3 7) i3) i3) zb)))))
   (zd ((zk (i:=10) S.nd rfl #[2]) (op3 zU (op3 zK (n3 7) i3) (df3 Z g (L.mono #[1]) rfl zp (za (n3 0) (za i3 zb)))))
   (zd ((zk (i:=11) S.nd rfl #[2]) (df3 Z I (L.mono #[1]) rfl zp (za (n3 4) (za (n3 5) (za (n3 9) (za (n3 10) (za b3 zb)))))))
   (zd ((zk (i:=12) S.nd rfl #[2]) (df3 Z M (L.mono #[1]) rfl zp (za (zq zH rfl T.n_len zC (za (n3 8) zb)) (za (zq zH rfl T.n_len zC (za (n3 11) zb)) (za (op3 zU (op3 zK (n3 7) i3) (df3 Z g (L.mono #[1]) rfl zp (za (n3 0) (za i3 zb)))) zb)))))
   (zd (jA [1] ((zk (i:=13) S.nd rfl #[2]) (dfU tu Z X (L.mono #[1]) rfl zp (za (n3 1) (za (new3 (zcV rfl T.n_list zcX (za (n3 11) zb))) (za (new3 (zcV rfl T.n_list zcX (za (n3 12) zb))) (za (new3 (zcV rfl T.n_list zcX (za (n3 8) zb))) zb)))))))
   (zd ((zk (i:=14) S.nd rfl #[2]) (df3 Z J (L.mono #[1]) rfl zp (za (n3 4) (za (n3 5) (za (n3 11) (za (n3 12) (za (n3 8) zb)))))))
   (ze (s_if (zr zh5 (n3 14) non3 (nomark _)) (ze (s_if (zr (jn L.units) (at3 (n3 13) i3 (fun _ _=>rfl)) s3 (nomark _)) (ze (zu b3)) zw)) (ze (s_if (pw3 (zaQ (zr (Jm L.units) (at3 (n3 13) i3 (fun _ _=>rfl)) s3 (nomark _)) (zba (zr (Jm L.units) (at3 (n3 13) i3 (fun _ _=>rfl)) (n3 14) (nomark _))))) (ze (zu b3)) zw)))))))))))))
  (ze (zu b3))))))),fun ds Q h=>?_⟩
 obtain⟨ns,rfl,aq,q⟩:=h;refine zj fun N Y=>?_
 walk_at "rd"
 refine Y _ ?_
 clear Y N;refine z5 (fun ρ=>∃ (l:List Spell) (t2 t3:Option L3.Cl),ρ = [some (.sh false (.list (ns.map .int))),some (.ow true ((cut3 l).map dS)),t2,t3,none,none,none,none,none,none,none,none,none,none,none]/\okS l/\tot l<=6) (fun N Y=>?_) ?_
 . walk_at "rd"
   refine⟨ns,rfl,#[1],#[1],fun l p h6=>?_⟩
   refine jx dS l (fun R ρ=>∃ t2 t3:Option L3.Cl,ρ = [some (.sh false (.list (ns.map .int))),some (.ow true ((cut3 R).map dS)),t2,t3,none,none,none,none,none,none,none,none,none,none,none]) ?_ (fun ρ zz0 => by obtain ⟨t2,t3,e⟩ := zz0; exact Y _ ⟨l,t2,t3,e,p,h6⟩) ⟨none,none,rfl⟩
   rintro R s an ρ hd ⟨t2,t3,rfl⟩ W hW
   have hs:s∈l:=by rw [hd];simp
   have ai:=p.1.2;have aj:(cut3 R).length<=8:=by
    unfold cut3;rw [YaR];have h1:=Waw (fun s:Spell=>decide (0<(s.2.take 3).sum)) R
    rw [hd,YaS] at ai
    omega
   simp (config:={ maxSteps:=2000000 }) only [seq3,next3,set3,own3,ret3,ifS3,tt3,o3,u3,v3,atV,asS,asB,asD,optP,asT,asLd,asL,atO,J3,nilP,asId,asI,k3,nw3,add3,int3,int0,neg3,eq3,ne3,eqOk,eqv3,isN3,notN3,isNone,ix3,ixD,ZO,nil3,Za,cb3,len3,lenD,abs3,max23,min23,sum3,max3,and3,or3,not3,ch3,tup3,lst3,zam,slL3,no3,zaj,ZQ,asg3,gn3,Zl,ZE,gnil3,app3,put3,frzS,frz,frz1,for3,itL,itT,itZ,rg1,rg2,Jo,true3,cst3,Zy,jR,shs,Cl.d,Cl.dat,Cl.f,za6,zt,XT,X4,XG,XQ,XY,XZ,XH,YJ,Wbk,Wbi,Wbf,Wbl,Wbh,Wbw,Wbv,Ya1,Wbx,Xq,Xz,Ym,Yn,Wbs,Xb,Xf,Xc,Yao,XC,Xx,Xg,Xh,WaR,Cl.sh.injEq,Cl.ow.injEq,Wa1,WaS,Wa2,WaT,WaH,Wa8,reduceCtorEq,and_assoc,and_true,true_and,and_self,exists_eq_left,exists_eq_left',exists_eq',exists_eq_right,exists_eq_right',exists_and_left,exists_const,exists_false,false_and,and_false,or_false,false_or,or_true,true_or,decide_true,decide_false,decide_eq_true_eq,Wbj,Wbc,WaF,WaI,if_true,if_false,ite_true,ite_false,WaJ,decide_eq_false_iff_not,eq_self_iff_true,not_true_eq_false,not_false_eq_true,sz0,sz1,sz2,sz3,sz4,par3,aug3,idx3,ext3,itE,k3f,zaf,put2,app2,ix2,Cl.tr.injEq,zav,ZY,Cl.dt.injEq,slT3,intB3,frzD,itD,ZX,zau,ZI,ZC,Cl.fd.injEq,zap,ZG,dms,jm,argC,JI,Jd,finM,Cl.dm.injEq,holds,updM,JL,Zg,Zx,ZU,Zt,ZB,ZS,zaC,Zh,ZL,zaA,srtL,ninT3,Zs,Xo,XJ,Zw,Z0,zaw,zax,ZV,ZZ,zac,zad,Z6,ZD,zab,Z1,Zb,zah,Zr,zay,Z5,zaD,Zo,Zv,ZK,ZA,Z2,zai,Zn,zat,zar,Zi,zaa,ZT,Zk,Zp,zaq,Zj,Zz,Zf,JX,Zm,ZJ,Zc,Jt,dSs,dS,dI,zt,dQ,dP,dPs,jJ,dW,atI0,atI1,atI2,atI3,dRs,dRl,JP,lE,fE,hE37,zhI,<-List.map_take,YaR]
   refine⟨s.2.take 3,jX _,ite2 (fun z=>⟨WaE aj #[1],hW _ ⟨_,_,by rw [zem,if_pos z,Ya2];rfl⟩⟩) fun z=>hW _ ⟨_,_,by rw [zem,if_neg z]⟩⟩
 rintro ρ ⟨l,t2,t3,rfl,p,h6⟩
 refine z5 (fun ρ=>∃ (l:List Spell),ρ = [some (.sh false (.list (ns.map .int))),some (.ow true (l.map dS)),t2,t3,none,none,none,none,none,none,none,none,none,none,none]/\okS l/\many l<=3/\tot l<=6) (fun N Y=>?_) ?_
 . walk_at "rd YaR"
   refine ite2 (fun z=>⟨WaE (show _<=8 by omega) #[1],Y _ ⟨[(3,[1,0,2])],?_,zhN,#[1],#[1]⟩⟩) fun z=>Y _ ⟨cut3 l,rfl,?_⟩
   . rw [Wal.mp (show(cut3 l).length=0 by omega)];rfl
   . obtain⟨a,b,c⟩:=zmQ p fun y=>z (by rw [y];rfl)
     exact⟨a,b,#[0]⟩
 rintro ρ ⟨l,rfl,p,ag,h6⟩
 have hm:=zcb p;have ax:=jM fun s hs=>(p.2.1 s hs).1
 have ap:=zbX p (zi l);have a8:=zgy p;have au:=zk9 p;have af:=zcg p;have ak:=zbu p;refine zj fun N Y=>?_
 walk_at "rd"
 refine⟨l,rfl,p,Y _ ?_⟩
 clear Y N;refine zj fun N Y=>?_
 walk_at "rd"
 refine⟨#[1],#[1],#[1],#[1],?_⟩
 rw [show((9:Int) - 5).toNat=4 from rfl]
 refine ja (fun k ρ=>∃ (t6 t7 t8 t9 a7 a6 a5 a4 a9:Option L3.Cl),ρ = hE37 ns l t2 t3 [t6,t7,t8,t9,a7,a6,a5,a4,a9]) ?_ ?_ ⟨none,none,none,none,none,none,none,none,none,rfl⟩
 . rintro k ρ hk ⟨t6,t7,t8,t9,a7,a6,a5,a4,a9,rfl⟩ W hW
   simp only [hE37,Xf,Xc,gn3,Xg,Xh,zt,Wbw];refine zj fun O j=>?_
   walk_at "rd"
   refine⟨ns,rfl,#[0],fun v=>j _ ?_⟩
   clear j O;generalize v+(5+(k:Int))=cc;refine zj fun O j=>?_
   walk_at "rd"
   refine⟨quoB (zi l) l,rfl,many l,hm.1,hm.2,#[0],#[0],fun r L=>(a8 r L).1,fun a3 am ad=>j _ ?_⟩
   clear j O;have a0:z8 (many l) (tot l).toNat a3:=⟨#[0],ad⟩
   refine zj fun O j=>?_
   walk_at "rd"
   refine⟨divP,quoB (zi l) l,rfl,many l,hm.1,hm.2,#[0],#[0],fun r L=>(a8 r L).1,fun ae al ac=>j _ ?_⟩
   clear j O;refine zj fun O j=>?_
   walk_at "rd"
   refine⟨divP,ns,rfl,#[1],fun v9=>j _ ?_⟩
   clear j O;refine zj fun O j=>?_
   walk_at "rd"
   refine⟨quoB (zi l) l,rfl,ae,rfl,af,ak,many l,hm.1,hm.2,#[0],#[0],fun r L=>(a8 r L).1,ac,fun bs hB ho=>j _ ?_⟩
   clear j O;have aa:=hB.1;refine zj fun O j=>?_
   walk_at "rd YaR"
   refine⟨divP,ns,rfl,#[1],fun aw=>⟨#[0],#[0],#[0],#[0],fun rs a1 ab av=>j _ ?_⟩⟩
   clear j O;rw [show(a3.length:Int)=tot l by omega,aa] at a1
   refine zj fun O j=>?_
   walk_at "rd"
   refine⟨l,rfl,bs,rfl,rs,rfl,a3,rfl,#[0],ho,#[0],ab,#[0],fun _ _ _ _ U hU ch h1 h2 h3 d hd=>j _ ?_,fun z=>absurd p z,fun _ z=>absurd hB z,fun _ _ z=>absurd a1 z,fun _ _ _ z=>absurd a0 z⟩
   clear j O;refine zj fun O j=>?_
   walk_at "rd"
   refine⟨l,rfl,rfl,bs,rfl,rs,rfl,a3,rfl,p,ag,h6,aa,ho,a1,ab,a0,fun e he=>j _ ?_⟩
   clear j O
   rcases zmV p hB ho hU a1 a0 h1 h2 h3 hd he with ⟨rfl,s,x,rfl,hs⟩|⟨m,ao,tp,vp,rfl,rfl⟩
   . walk_at "rd atI0"
     rw [if_neg hs];exact hW _ ⟨_,_,_,_,_,_,_,_,_,rfl⟩
   . have a2:∀ {α : Type} {x y z u v:α},atI [x,y,z,u,v] 2=some z:=rfl
     walk_at "rd atI0 a2"
     exact hW _ ⟨_,_,_,_,_,_,_,_,_,rfl⟩
 . rintro ρ ⟨t6,t7,t8,t9,a7,a6,a5,a4,a9,rfl⟩
   refine Y _ ?_
   simp only [hE37,Xf,Xc]
   walk_at "rd"
   exact q
end
theorem zmg{h:Heap}(X:K.In h)(G:h.Ns mainGlobals mg){sl:Array (Option Value)}{kV:Value}(a:Xu K mainGlobals x=some (some (.ref f)))(l:K.lookup f=some ⟨oc,od,.func (XO x x (JW st) (jN st) (zg st) .none kV dc pm an cd ct),sl⟩)(c:XU K cd x=true)(k:XD K (.ref f)=true):DA K mg x st:=⟨f,_,zb5 l c k,Wbm X G a⟩
theorem zhR{h:Heap}(X:K.In h)(G:h.Ns mainGlobals mg)
       {ix2:Int} 
 
 
 
 
 
 
 
 
 
 
    
     
     
 
 
 
 
 
 (D:TxtD K mg)
 (a34:Xu K mainGlobals "nearest" = some (some (.ref f34)))
 (l34:K.lookup f34=some ⟨oc34,od34,.func (XO "nearest" "nearest" (JW jW) (jN jW) (zg jW) .none kV34 dc34 pm34 an34 (.ref cx0) ct34),sl34⟩)
 (c34:XU K (.ref cx0) "nearest" = true)
 (k34:XD K (.ref f34)=true)
 (q1:K.lookup cx0=some ⟨.type "code", odx,.fields vsx,slx⟩)
 (q2:vsx[11]?=some (.ref tbx))
 (q3:vsx.getD 11 .none=.ref tbx)
 (q4:vsx.getD 18 .none=.str flx tx1)
 (q5:vsx.getD 7 .none=.int ix1 tx2)
 (q6:vsx.getD 9 .none=.bool bx)
 (q7:vsx.getD 10 .none=.int ix2 tx3)
 (q8:cx0≠tbx)
 (q9:K.lookup tbx=none)
 (m_ClanError:Xu K mainGlobals "ClanError" = some (some (.ref c_ClanError)))
 (m_NoSpell:Xu K mainGlobals "NoSpell" = some (some (.ref c_NoSpell)))
 (m_NoRow:Xu K mainGlobals "NoRow" = some (some (.ref c_NoRow)))
 (m_NoBounds:Xu K mainGlobals "NoBounds" = some (some (.ref c_NoBounds)))
 (m_NoRule:Xu K mainGlobals "NoRule" = some (some (.ref c_NoRule)))
 (m_Market:Xu K mainGlobals "Market" = some (some (.ref c_Market)))
 (mI2:Xv K (.ref c_Market) "__init__" = some (some (.ref fI)))
 (lI:K.lookup fI=some ⟨ocI,odI,.func (XO "__init__" "Market.__init__" (JW Ji) (jN Ji) (zg Ji) .none kVI dcI pmI anI cdI ctI),slI⟩)
 (cI:XU K cdI "Market.__init__" = true)
 (kI:XD K (.ref fI)=true)
 (mI1:Wg K c_Market=true)
 (mI3:Up K (.ref fI)=true)
 (mI4:XD K (.ref c_Market)=true)
 (cI1:Yj K c_Market Str.empty=true)
 (cI2:X8 K c_Market=true)
 (cI3:YO K c_Market=true)
 (cI4:Xv K (.ref c_Market) "__setattr__" = some (some (.builtin "object.__setattr__")))
 (nI_costs:Xv K (.ref c_Market) "costs" = some none)
 (nI_turn_prices:Xv K (.ref c_Market) "turn_prices" = some none)
 (nI_visit_prices:Xv K (.ref c_Market) "visit_prices" = some none)
 (nI_taken:Xv K (.ref c_Market) "taken" = some none)
 (nI_holders:Xv K (.ref c_Market) "holders" = some none)
 (e_NoSpell:Xw K c_NoSpell [.type "ValueError", .type "Exception", .type "BaseException", .type "object"] "ValueError.__new__" = true)
 (e_NoBounds:Xw K c_NoBounds [.type "ValueError", .type "Exception", .type "BaseException", .type "object"] "ValueError.__new__" = true)
 (e_NoRule:Xw K c_NoRule [.type "ValueError", .type "Exception", .type "BaseException", .type "object"] "ValueError.__new__" = true)
 (e_NoRow:Xw K c_NoRow [.type "ValueError", .type "Exception", .type "BaseException", .type "object"] "ValueError.__new__" = true)
 (m_LEAST_BOUND:Xu K mainGlobals "LEAST_BOUND" = some (some (.ref t_LEAST_BOUND)))
 (q_LEAST_BOUND:K.lookup t_LEAST_BOUND=some ⟨.type "tuple", od_LEAST_BOUND,.seq #[.int 0 u0_LEAST_BOUND,.int 1 u1_LEAST_BOUND] n_LEAST_BOUND,sl_LEAST_BOUND⟩)
 (m_MOST_BOUND:Xu K mainGlobals "MOST_BOUND" = some (some (.ref t_MOST_BOUND)))
 (q_MOST_BOUND:K.lookup t_MOST_BOUND=some ⟨.type "tuple", od_MOST_BOUND,.seq #[.int 10 u0_MOST_BOUND,.int 1 u1_MOST_BOUND] n_MOST_BOUND,sl_MOST_BOUND⟩)
 (m_FIXED:Xu K mainGlobals "FIXED" = some (some (.str "fixed" t_FIXED)))
 (m_BARRED:Xu K mainGlobals "BARRED" = some (some (.str "barred" t_BARRED)))
 (m_MOST_SPELLS:Xu K mainGlobals "MOST_SPELLS" = some (some (.int 8 t_MOST_SPELLS)))
 (m_MOST_CLANS:Xu K mainGlobals "MOST_CLANS" = some (some (.int 8 t_MOST_CLANS)))
 (m_MOST_TURNS:Xu K mainGlobals "MOST_TURNS" = some (some (.int 60 t_MOST_TURNS))):∃ c:Law.Cl,Txt c K mg:=
 ⟨⟨c_ClanError,c_NoSpell,c_NoRow,c_NoBounds,c_NoRule,c_Market,cx0,tbx⟩,{
  toTxtD:=D,
  d_nearest:=⟨f34,_,zb5 (st:=jW) l34 c34 k34,Wbm X G a34⟩,
  x_nearest:=⟨f34,_,zb5 (st:=jW) l34 c34 k34,Wbm X G a34,rfl⟩,
  hdC:=fun h kh=>⟨_,vsx,flx,tx1,ix1,tx2,bx,ix2,tx3,kh _ _ q1,rfl,rfl,q2,q3,q4,q5,q6,q7,q8⟩,
  tab:=zlJ a34 l34 rfl q1 q2,
  nop:=q9,
  m_ClanError:=Wbm X G m_ClanError,
  m_NoSpell:=Wbm X G m_NoSpell,
  m_NoRow:=Wbm X G m_NoRow,
  m_NoBounds:=Wbm X G m_NoBounds,
  m_NoRule:=Wbm X G m_NoRule,
  m_Market:=Wbm X G m_Market,
  x_init:=⟨fI,_,zb5 (st:=Ji) lI cI kI,⟨mI1,mI2,mI3,mI4⟩⟩,
  cl_M:=⟨cI1,cI2,cI3,cI4⟩,
  na_costs:=nI_costs,
  na_turn_prices:=nI_turn_prices,
  na_visit_prices:=nI_visit_prices,
  na_taken:=nI_taken,
  na_holders:=nI_holders,
  e_NoSpell:=e_NoSpell,
  e_NoBounds:=e_NoBounds,
  e_NoRule:=e_NoRule,
  e_NoRow:=e_NoRow,
  m_LEAST_BOUND:=⟨_,Wbm X G m_LEAST_BOUND,_,_,_,q_LEAST_BOUND,rfl,rfl,by show(2:Nat)<=sizeLine;decide,(.cons ⟨_,rfl⟩ (.cons ⟨_,rfl⟩ .nil))⟩,
  m_MOST_BOUND:=⟨_,Wbm X G m_MOST_BOUND,_,_,_,q_MOST_BOUND,rfl,rfl,by show(2:Nat)<=sizeLine;decide,(.cons ⟨_,rfl⟩ (.cons ⟨_,rfl⟩ .nil))⟩,
  m_FIXED:=⟨_,Wbm X G m_FIXED⟩,
  m_BARRED:=⟨_,Wbm X G m_BARRED⟩,
  m_MOST_SPELLS:=⟨_,Wbm X G m_MOST_SPELLS⟩,
  m_MOST_CLANS:=⟨_,Wbm X G m_MOST_CLANS⟩,
  m_MOST_TURNS:=⟨_,Wbm X G m_MOST_TURNS⟩ }⟩
section
variable{c:Law.Cl}
theorem zjG(T:Txt c K mg)(a:BMod mg base)(b:K.In base):dd_mend_visits c P w K mg base:=zj5 T a b
theorem zkd(T:Txt c K mg)(a:BMod mg base)(b:K.In base):dd_mended c P w K mg base:=zmm T (zii T) (zhr T) (zi6 T) (zkO T) (znM T) (zjG T a b) (ziG T)
theorem zih(T:Txt c K mg)(a:BMod mg base)(b:K.In base)(F:Fun K "law" "law" zb0 f fd):FnOk P w K mg base (CXR P w) 8 f fd ["_law_script"] (spU c.tb K Jt):=zjH T (zld T) (ziI T) (zkr T) (zmJ T) (zmv T) (zkd T a b) (zjQ T) (zgQ T) F
end
theorem walk{l:W6}{loose:List Str}{XP:(Str->Option Value)->Heap->Prop}{YP:World->Heap->Prop}{d:DefRec}{K:Params->Ybf}(z:l.most=some 63)(g:d.params.defaults=[])(i:d.name = "law")
 (a:(recsOf q).find? (fun e=>e.name==("nearest" : Str))=some dd) (r:∀ (w:World) (h:Heap),YP w h->(K w.params).In h)
 (F:∀ (w:World) (mg:Str->Option Value) (h:Heap),(K w.params).In h->h.Ns mainGlobals mg->∃ c,Txt c (K w.params) mg) :
 Ul q loose XP YP l.row.toRowW d [] (fun f vs=>Uf f vs):=by
 refine L3.zkV (k:=8) (x:="_law_script") (sp:=Jt) z #[1] g ⟨rfl,#[1],#[1]⟩ r a (fun w mg R h I G b=>?_) (fun A J Q E C=>⟨A,rfl,J,C _⟩)
 obtain⟨c,T⟩:=F w mg h I G;obtain⟨f,X,n,o⟩:=T.d_law;rw [i,o] at b;cases b;have j:=n;refine Hd fun Y Z=>?_;obtain⟨U,P,W,v,M,O,H,N,L,rfl,S,p⟩:=n.ex;apply Z;exact⟨_,c.c0,c.tb,fun s u=>.of_eq rfl,T.tab,T.nop,fun m B y=>zih T y B j⟩
end Law
end Lake
namespace PySem.W.Fast
set_option bootstrap.genMatcherCode true
local macro_rules|`(command|#print $s:str)=>do
 let (_,_,a):=s.getString.foldl (fun(k,n,a) c=>let n:=n*91+(c.toNat-35-c.toNat/93);if k==9 then (0,0,a.push n) else (k+1,n,a)) (0,0,(#[] : Array Nat))
 return Lean.mkNullNode (<-a.mapM fun n=>`(command|theorem $(mI (.mkSimple s!"tw{n}")):ident:True:=trivial))
set_option bootstrap.genMatcherCode false
#print ":JTB~IlNak:K~=eL-m>c:MWHjA>1MY:SzU-]G<uW:]IMTPd5:r:`xcn8Y7Nv:cfhr}Y$oA:h^bUc'me~:uh3Suyj&X;'1&2a7^hS;)PNx;+qn:;H;>8]p,hg;RVXFY?<wP;a^mv582lg%MfM}:o07.;j.uCGi,j3;llm:9/&53;}W/5D}i$T;~|_Qmessu<.Aej6Ce4S<11<kIXH0s<2:z{)viv'<2telFpht[<GkEq%_;u[<MyZ23X_rB<P;^42HYt-%UN8^;%OX1<U{-^'lkZv%VYa]SwH[:%Z_|k.~Sr8=.5l]DZt/M=>S)6j%CA'=?>^oAan2z=Dy738k6)_=N)T1Yunj[=b3V1UwU'<=brDy,c_tm=bt>/Sxf#,>6|O?D9kCA>@A0}yn-O5>Je/ag'~{w>U>bWR3{(5>ahg9e<uxo>mOC<y4*m?>mT[L'Q&M_>nkb9;L0?J>t`aE(G)us>uW6_6A`dn>wmlX=--rw?9nJqa`=)9?S*^Ei@M:V?[jl;6#4q%?^(Ibe]sgv?^z/a>UK@k?`fv=N531T?kaK0o^MGN?s`%Hgyd^I?}+8?-9.$Z@1oKOaj+g~@8&Pvc~QV]@8@ZYDRdLa@;j9P@;G]Y%xm_BiP|/4@aJA)x>1;]@hJksn4#jM@loB.,)rDZA/Z-F17}ir&%X:7IU>xKAB$ei}ivq`ABJ*-f*}JlAF{}ea)7El&(81Wf-{?uAXkok-Y6_VAg(`X$Rp@~Ah8vr2T(26B+Y%i=vuV>B-}.MK<m>-BA(rHu/U|XBC:r*Fx5af&/eNLgpf7RBP'$CJu8$r&0h|bm}ZCzBURN6JOR<SBZUDVWSkcjBu)D%MReqJBxiQb4IN,hBz7~A($7T_Bzr>R;'eTXC&uQ$[ea;GC8W+4u_C22COjOCFFMN,CZ.cv@Y$OXCr%(GCRz*QD.$|x6q=:kDC0&2u%^)MDRhH)8ez09DYYx=rv<@3DbkF`W'1,lE&v$d'if~sEAO$0gs)EVE_tH~wr8X&Ej&FdxY:tyEpVCzk]</LEs':Y3k<hAF-%;|9iHo5F/KH(<IvYvF=xTmBen/oFD91e_4z]BFJ8V;aMaDY&T^Tu+2GSBFT9Y*/{ly;Fk;?jGPp_LFq{[0V%diGG(lKqT+d<OG)Z_.Qtt3fG3<^EPbvTv#D%s/FHv+=G@VaV-|DpuGB1W/WeLe'GF@IMST'V.GZi4e$xL^hGcZU~F;8zDGc_@v9{<6OGhL#{;NaV?Gy~*E=lcRYH-TCnpuWK]H7eqd2d}i|H<sJSaPP1WH='$pUFhL@&fE0ru}m^RHCnA,~vsn[HP3hoo=K(%HTw78EjwKb&i.UT}E($U&j77yO[wyN&kMSDA|Vm-Hr%mcqYCK@HtPNJcs~IVHu-_s<eep&HzKhvl,o)mI%#co+SdZwI.KHF/,wWNI/<VbPMD`3I/Gf>qi5pn&oG-rZ'*N>IJxX<&kkB|IM;VgBEARoIPw:{4<<53IU&Q=9+G-oIxN;'I}faI&u|ufYIFu3&v':2%arYK&vFL465f+aJ/3f'U}9H-J4q|]<[vaSJG}k<*s`LYJJ87vj[dd8JM^nfr%c6^JNG@JjYTq(JVevx*N(JcJVu_|]Ca$]JWv|HdpFAVJZV[rN9eA/J[+o+#a3w}Jr7tr]))P]J|0.-3kBuPK$-ErOwEeS'#gZ;|FwoIK1Si[~l{(uK2cIel<|N.'%0Z5uNu}.K:$I|&SeY-KIW?o_do)e''/%llTP<fKOcwa;rCF}'({|T=<URdKgTe{t$5*ZK}lJW%TTPEL%**A?b+G]L49R+$+57]L6Z>$,vB7&L<w@`#X@ynL=p5d_DNWGLAl}RTO&cULFL#|F'Jk+LRGityLz<ALjd-Pb*;+T'3L9lTph%:LqO~f97FN^Lr-V<,vq3OM.:,t$XZDHM7.Gq*a%zYM71KL&,Q{8M9}@5M@C-sMB,*WoZ8YJ'8GOX;I|{>MSe;Z[6*O]Mh^9~2vNC?Mhxa6dqk/+'H{COr@~WH'Jiw6d#pf['QGbl2LDP8#N/vH)=|9Q'jE`m-oAzT'mogNO740s'nW=&b;(%{('P6A{3[__(,xfe8Hs>d(9i<YQE[u*(;i<&N48M;(u5Ku9%Upi(x{I1he.uY)#>~ve1g2:#Yu@M^CAd*)'xgB;cu:H))j]CuX[9&).On(D$31V)81'Y}qqoC):U.F,0/@b);J<`AkyuD)?brfC.@'J#]lNgN`zW@)E4t#DL]T2)HAY0`wdpY)J<2PNDlr#)bx1fwH6CL)e/=pFR8Vo)hq[Oc[Jz4)iwghO43q))ljG.8kitu)sAv?02:n|)v_i_G6IgU)vmY/|i/HH*$&+`WR2X;*7]%0lH:fm*<XRfY.8f|*X_,#OlGXL*Xy~jB<{sS*]M0VW^:ty*a6]2a@=Re+1r}wtpHOZ+2A[PIwW6K+5h0$:qP7B#o}ijlr6(E+Dn(=|9]yN+I;7}a^nmS#rv?%-A`0M+jY?5']>.$+zyvOog5:W,1(|B:F$,u,9&h#ORhC2,;<WH0kk*$,C2q-w-9$h,JAK_$|l@I,NA$nu`RE-,StJCI'>%O,Uu5Ar8.3],[Fcfe/^QF,fTy9q1LD[,lhjB2o4vl,m#Y^HI7gI-3&[AMb1fK-9}9V[ph=S-<`BY5^aG<$'8W+7JY7E-bQlaM`)/%-eD86E76<%-e^imR<k)G-tbh>MA=1t-zczG2z~gw$+{ZtTA(@|.>}6?z23m/.HKDee5mN;#-T1X6#(*A.ogY5N-`Mn$4T'W)nz[^.z;F<mTi?P/$G1-91sx:/:ikR]Rqo@/?[OmI:.}U/Ddgu{.2.3/J;SC8wv/3/N~psntRBG#.Xonx(Uk:/gqwK[Vc;5/oQx%IO[*3/yr]SkCZ;_0'}bfm'{?M$?..4:1|jn0;r&gV^Es70=h^/)gr`f0C{Xd#y9Ob$CA6E-`obl$F*^cA6v&A0x>Ys)rX:<0|}__FR{']1)-vB1vBm-#/v2}p4lhu#0#I_'zae51>EwD#aMCS1Oa{pex/bf1Ws0+D2t_O1`ry&8,^;$1xJ968?^N%$Ow[.i>?Ty21UmSZaFIk2EZTFb~:}72S}K|l=|l12kAqeiQzf72p:0N[mm^<3/|0[?i$OX3>UXe`8?{W3YoUy(NM~r3_2[}t;1[Z3i?rHE9#813w851v(kOh3}4tl7%Me_4&ys$[zhz{4fJ%E^9G^~4g{5]8Ve*X5)~pW*a[n?$n9uOL/,}Y$o=Bpjk?C35>b;quWSP?5@'-EOXLes5MmTQ;@fk(5W$lCkmS5-5W}`sIOG<j5ZX2U<,3zX5_;'$;'mTb5nfdUgk%7V61(pXf0mG8$wp9hEdd-M6;xg1d4v3t6@?8C%6Uu26g4nHr6B.P6hr}WNV[^,6k#*s_?84_6v&0{y$O^y7#cVQjqRg#7%_T}XiH_z7+bx/PA+H3%%KIwjSR6Z7<F~zu0`;R7=c]P@C*At7YfTz|J|K}7_pdbKugt67bNk(VUE>77d0jyMW.-e7i8f|6|)X77yT{X6dp0n8)B=oxHob18=bsEN=iCU8K$}&$R+Je8M9?sqj<^&8OD9aS-#{W8URhqmYnEs8Z`/V]/r@q8`oab{&$Pq8dva}m_*SC8kmE$'rr`&8l7&HTwjZN%3AdRW(;3{8q5&4=GhmE8s-zJB^<l#8{&7Tb=`Np9&w~Nw.fmh9<[/EKVa0?9?o//.4[,x9Af@f95tZq9YFE(:K&1+9aV>iw'-Mc9uL'S]l9X}9}hF,5o-:;:.z&gqMIL$:5U2Y2a.zN::Taz%gF;V:=`nS#(Q#_:CMYqgFi/G"
end PySem.W.Fast
theorem PySem.W.Fast.te8268498491425042886:True:=trivial
abbrev PySem.W.Fast.tw6210191906782840734:PySem.Program:=PySem.Challenge.pw_chairclans_k37_mended_against_all_rows
theorem PySem.W.Fast.te6210191906782840734:PySem.Challenge.pw_chairclans_k37_mended_against_all_rows=PySem.W.Fast.tw6210191906782840734:=rfl
open PySem PySem.W PyProof.Rows Lake
set_option maxRecDepth 100000 in
set_option maxHeartbeats 0 in
theorem PySem.Challenge.cw_chairclans_k37_mended_against_all_rows_holds : PySem.Challenge.rw_chairclans_k37_mended_against_all_rows.Holds := by
 w_on;o_law;k_head;(case hw=>w_witness2)
 k_fill
 refine Law.walk (l:=PySem.Challenge.rw_chairclans_k37_mended_against_all_rows) rfl rfl rfl rfl (fun w h Y=>PySem.W.km_in_of Y) ?F
 case F=>
  intro w mg h KX G;refine' Law.zhR KX G ?D ?a34 ?l34 ?c34 ?k34 ?q1 ?q2 ?q3 ?q4 ?q5 ?q6 ?q7 ?q8 ?q9 ?m_ClanError ?m_NoSpell ?m_NoRow ?m_NoBounds ?m_NoRule ?m_Market ?mI2 ?lI ?cI ?kI ?mI1 ?mI3 ?mI4 ?cI1 ?cI2 ?cI3 ?cI4 ?nI_costs ?nI_turn_prices ?nI_visit_prices ?nI_taken ?nI_holders ?e_NoSpell ?e_NoBounds ?e_NoRule ?e_NoRow ?m_LEAST_BOUND ?q_LEAST_BOUND ?m_MOST_BOUND ?q_MOST_BOUND ?m_FIXED ?m_BARRED ?m_MOST_SPELLS ?m_MOST_CLANS ?m_MOST_TURNS
  (case D=>constructor<;>first|(refine' Law.zmg KX G ?a ?l ?c ?k;(case a|l|c|k=>k_is))|exact PySem.W.mg_none_of KX G (by k_is))
  (case a34|l34|c34|k34|q1=>k_is)
  (case q2|q3|q4|q5|q6|q7=>rfl)
  (case q8=>decide)
  (case q9=>kernel_rfl)
  (case m_ClanError|m_NoSpell|m_NoRow|m_NoBounds|m_NoRule|m_Market|mI2|lI|cI|kI|mI1|mI3|mI4|cI1|cI2|cI3|cI4|nI_costs|nI_turn_prices|nI_visit_prices|nI_taken|nI_holders=>k_is)
  (case e_NoSpell|e_NoBounds|e_NoRule|e_NoRow=>k_exc)
  (case m_LEAST_BOUND|q_LEAST_BOUND|m_MOST_BOUND|q_MOST_BOUND|m_FIXED|m_BARRED|m_MOST_SPELLS|m_MOST_CLANS|m_MOST_TURNS=>k_is)