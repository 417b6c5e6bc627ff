import PyProof.Rows.All
import Wide.All
import OpenK.AllK
import Wide.FinOn
import Lean
import PyProof.EqAt
import PyProof.EqKinds
import PyProof.TupleCall
import PyProof.P3Eq
import PyProof.NeData
import PyProof.FitsBits
import PyProof.ZipIter
import PyProof.TupleIter
import KE.KRevIter
import PyProof.TupleOfGen
import PyProof.ListRange
import KE.KIsAll
import PyProof.ExcArgsOwn
import OpenK.KDescr
import PyProof.StationsW
import PyProof.ExcBaseAll.ValueError
import OpenK.KOwn
import PyProof.RulesAs
import PyProof.RulesDel
import PyProof.Rows.SortWalk
import PyProof.CompUse
import KE.KDictSum
import PyProof.WalkInts
import KE.KSortTup
import PyProof.Rows.TupDisplay
import KE.KIntText
import PyProof.JoinWalk
import PyProof.ExcInit
import PyProof.ExcClass2
import PySem.Challenge.RW_pebbletoll_k62_desk_deeds_refused
set_option Elab.async false
set_option linter.all false
set_option maxRecDepth 100000
namespace Hd
open PySem
def top (i:Nat):Stmt:=PySem.Challenge.pw_pebbletoll_k62_desk_deeds_refused.main.body.getD i (.Pass ⟨0,0,0,0⟩)
def inC (s:Stmt) (j:Nat):Stmt:=match s with
 | .ClassDef _ _ _ b _ _ _ _ _ _ _=>b.getD j (.Pass ⟨0,0,0,0⟩)
 | _=>.Pass ⟨0,0,0,0⟩
def kA (s:Stmt):Arguments:=match s with
 | .FunctionDef _ a _ _ _ _ _ _ _ _=>a
 | _=>{ posonlyargs:=[],args:=[],vararg:=none,kwonlyargs:=[],kw_defaults:=[],kwarg:=none,defaults:=[] }
def kB (s:Stmt):List Stmt:=match s with
 | .FunctionDef _ _ b _ _ _ _ _ _ _=>b
 | _=>[]
def kS (s:Stmt):Scope:=match s with
 | .FunctionDef _ _ _ _ _ _ sc _ _ _=>sc
 | _=>{ kind:=.function,names:=[],isGenerator:=false,isCoroutine:=false }
open PySem.W PySem.Calls PyProof.Rows
def en (P:Params) (s:Str) (t:Tok) (v:Value):DictEntry:=.mk (PyData.keyHash P s) (.str s t) v
def cO (a b:Str) (t1 t2 t3:Tok) (i1 i2 i3 i4 i5:Int) (r1:Value) (b1:Bool) (i6:Int) (r2 v1 v2 v3 r3:Value) (i7 i8:Int) (t4:Tok):Obj:=.mk (.type "code") none (.fields #[.str a t1,.str b t2,.str "/claim/cut.py" t3,.int i1 0,.int i2 0,.int i3 0,.int i4 0,.int i5 0,r1,.bool b1,.int i6 0,r2,v1,v2,v3,r3,.int i7 0,.int i8 0,.str "/claim/cut.py" t4]) #[]
def fR (a b:Str) (s:Stmt):Obj:=.mk .none none (.func (.mk a b (kA s) (.stmts (kB s)) (kS s) 0 [] .none .none .none .none none .none .none 0)) #[]
def fO (a b:Str) (s:Stmt) (pm cd:Value):Obj:=.mk (.type "function") none (.func (PySem.W.fnOf a b (kA s) (kB s) (kS s) .none .none .none pm none cd .none)) #[]
def tO (xs:Array Value):Obj:=.mk (.type "tuple") none (.seq xs 0) #[]
def x0:Obj:=(tO #[])
def x1:Obj:=(.mk .none none (.fields #[]) #[])
def x2:Obj:=(cO "<module>" "<module>" 182 183 184 1 0 0 0 0 (.ref 11) false 181 (.ref 12) .none .none .none .none 185 1 186)
def x3:Obj:=(.mk (.type "frame") none .plain #[(some (.ref 13)),(some (.ref 3)),(some (.ref 3)),none,(some (.str "__main__" 164)),none,(some (.ref 0))])
noncomputable def ha (P:Params):Heap:=.mk (.mk (boot_o_0 P::boot_o_1 P::boot_o_2 P::boot_o_3 P::boot_o_4 P::boot_o_5 P::boot_o_6 P::boot_o_7 P::boot_o_8 P::boot_o_9 P::boot_o_10 P::x0::x1::x2::x3::[])) (.mk [] [] [] 0 [] [] false #[] [] 0 false false false 0 [2000,10,10] false 0 true [] [] 0 false)
noncomputable def hb (P:Params):Heap:=.mk (.mk (boot_o_0 P::boot_o_1 P::boot_o_2 P::boot_o_3 P::boot_o_4 P::boot_o_5 P::boot_o_6 P::boot_o_7 P::boot_o_8 P::boot_o_9 P::boot_o_10 P::x0::x1::x2::x3::[])) (.mk [] [] [] 0 [] [] false #[] [] 0 false false false 0 [2000,10,10] false 0 true [] [] 0 false)
abbrev st0:List Stmt:=[top 0,top 1,top 2,top 3,top 4,top 5,top 6,top 7,top 8,top 9,top 10]
abbrev st1:List Stmt:=[top 11,top 12,top 13,top 14,top 15,top 16,top 17,top 18,top 19,top 20,top 21,top 22,top 23,top 24,top 25,top 26,top 27,top 28,top 29,top 30,top 31,top 32,top 33,top 34,top 35,top 36,top 37,top 38,top 39,top 40,top 41,top 42,top 43,top 44,top 45,top 46]
abbrev st2:List Stmt:=[top 47,top 48,top 49,top 50,top 51,top 52,top 53,top 54,top 55,top 56,top 57,top 58]
abbrev bb:List Stmt:=st0++(st1++(st2++([])))
def env:Env:={ scope:=PySem.Challenge.pw_pebbletoll_k62_desk_deeds_refused.main.scope,locals:=mainNs,globals:=mainNs,cells:=[],code:=(.ref 13),frame:=some 14 }
abbrev cE:Code:=.body bb env
theorem UN (w:World) (os:OsState):topGo treeTable PySem.Challenge.pw_pebbletoll_k62_desk_deeds_refused w 11 (some (.ref 6)) 12 (Shared.mk (boot_heap w.params) (.mk []) boot_drawn boot_toks os) (topStub PySem.Challenge.pw_pebbletoll_k62_desk_deeds_refused)=some ((Shared.mk (ha w.params) (.mk []) (.mk 0 0 0 0) 187 os),Thread.mk (denote treeTable cE) cE (.mk 0 0 0 0) [topFrame (.mk 0 0 0 0)]):=by kernel_rfl
theorem UK (w:World) (os:OsState):segRun treeTable PySem.Challenge.pw_pebbletoll_k62_desk_deeds_refused w 11 (some (.ref 6)) 1 1 (Shared.mk (ha w.params) (.mk []) (.mk 0 0 0 0) 187 os) (blockOf bb env cE (.mk 0 0 0 0) [topFrame (.mk 0 0 0 0)])=some (.next,(Shared.mk (hb w.params) (.mk []) (.mk 0 0 0 0) 187 os),cE,(.mk 0 0 0 0)):=by kernel_rfl
def x4 (P:Params):Obj:=(.mk (.type "dict") none (.dict #[(en P "__name__" 165 (.str "pebbletoll.errors" 194)),(en P "__doc__" 166 .none),(en P "__package__" 167 .none),(en P "__loader__" 168 (.builtin "__main__.__loader__#opaque")),(en P "__spec__" 169 .none),(en P "__annotations__" 170 (.ref 6)),(en P "__builtins__" 171 (.ref 4)),(en P "__file__" 173 (.str "/claim/cut.py" 172)),(en P "__cached__" 174 .none),(en P "_wall" 193 (.ref 21)),(en P "TollError" 213 (.ref 31)),(en P "BadWeb" 229 (.ref 44)),(en P "NoPlace" 245 (.ref 56)),(en P "NoRoad" 261 (.ref 68)),(en P "BadLaying" 277 (.ref 80)),(en P "BadWish" 293 (.ref 92)),(en P "TooMany" 309 (.ref 104)),(en P "NoNumber" 325 (.ref 116)),(en P "NoWorst" 341 (.ref 128))] 19) #[])
def x5:Obj:=(.mk .none none (.fields #[(.int 1 0),(.int 0 0),(.ref 20),(.int 5 0),(.int 0 0),(.ref 27),(.int 7 0),(.int 0 0),(.ref 40),(.int 9 0),(.int 0 0),(.ref 52),(.int 11 0),(.int 0 0),(.ref 64),(.int 13 0),(.int 0 0),(.ref 76),(.int 15 0),(.int 0 0),(.ref 88),(.int 17 0),(.int 0 0),(.ref 100),(.int 19 0),(.int 0 0),(.ref 112),(.int 21 0),(.int 0 0),(.ref 124)]) #[])
def x6:Obj:=(tO #[(.str "k" 190)])
def x7:Obj:=(fR "_wall" "_wall" (top 0))
def x8:Obj:=(cO "_wall" "_wall" 187 188 189 1 1 0 0 3 (.ref 15) true 181 (.ref 16) .none (.ref 17) (.ref 18) (.ref 19) 191 1 192)
def x9:Obj:=(fO "_wall" "_wall" (top 0) (.str "__main__" 164) (.ref 20))
def x10:Obj:=(tO #[(.type "ValueError")])
def x11:Obj:=(.mk (.type "builtin_function_or_method") none (.fields #[(.builtin "type.__prepare__"),(.type "type")]) #[])
def x12 (P:Params):Obj:=(.mk (.type "dict") none (.dict #[(en P "__module__" 203 (.str "pebbletoll.errors" 194)),(en P "__qualname__" 205 (.str "TollError" 204)),(en P "__firstlineno__" 207 (.int 5 206)),(en P "__static_attributes__" 208 (.ref 29))] 4) #[])
def x13:Obj:=(cO "TollError" "TollError" 198 199 200 5 0 0 0 0 (.ref 25) false 181 (.ref 26) .none .none .none .none 201 5 202)
def x14:Obj:=(.mk (.type "frame") none .plain #[(some (.ref 27)),(some (.ref 3)),(some (.ref 24)),none,(some (.str "pebbletoll.errors" 194)),none,(some (.ref 0))])
def x15 (P:Params):Obj:=(.mk (.type "dict") none (.dict #[(en P "__module__" 203 (.str "pebbletoll.errors" 194)),(en P "__firstlineno__" 207 (.int 5 206)),(en P "__static_attributes__" 208 (.ref 29)),(en P "__weakref__" 210 (.ref 32)),(en P "__doc__" 211 .none)] 3) #[])
def x16:Obj:=(.mk (.type "type") none (.cls (.mk "TollError" [(.type "ValueError")] [(.ref 31),(.type "ValueError"),(.type "Exception"),(.type "BaseException"),(.type "object")] 30 "TollError" true [] [(.ref 44),(.ref 56),(.ref 68),(.ref 80),(.ref 92),(.ref 104),(.ref 116),(.ref 128)] false none false)) #[(some (.ref 22)),none,(some (.str "TollError" 196)),(some (.str "TollError" 204)),(some (.builtin "ValueError.__new__")),(some (.bool true))])
def x17:Obj:=(.mk (.type "getset_descriptor") none (.fields #[(.str "__weakref__" 209),(.ref 31),(.builtin "ExceptionGroup.__weakref__"),.none]) #[])
def x18:Obj:=(.mk (.type "super") none (.fields #[(.ref 31),(.ref 31),(.ref 31)]) #[])
def x19:Obj:=(.mk (.type "builtin_function_or_method") none (.fields #[(.builtin "object.__init_subclass__"),(.ref 31)]) #[])
def x20:Obj:=(tO #[(.ref 31)])
def x21 (P:Params):Obj:=(.mk (.type "dict") none (.dict #[(en P "__module__" 221 (.str "pebbletoll.errors" 194)),(en P "__qualname__" 223 (.str "BadWeb" 222)),(en P "__firstlineno__" 225 (.int 7 224)),(en P "__static_attributes__" 226 (.ref 42))] 4) #[])
def x22:Obj:=(cO "BadWeb" "BadWeb" 216 217 218 7 0 0 0 0 (.ref 38) false 181 (.ref 39) .none .none .none .none 219 7 220)
def x23:Obj:=(.mk (.type "frame") none .plain #[(some (.ref 40)),(some (.ref 3)),(some (.ref 37)),none,(some (.str "pebbletoll.errors" 194)),none,(some (.ref 0))])
def x24 (P:Params):Obj:=(.mk (.type "dict") none (.dict #[(en P "__module__" 221 (.str "pebbletoll.errors" 194)),(en P "__firstlineno__" 225 (.int 7 224)),(en P "__static_attributes__" 226 (.ref 42)),(en P "__doc__" 227 .none)] 2) #[])
def x25:Obj:=(.mk (.type "type") none (.cls (.mk "BadWeb" [(.ref 31)] [(.ref 44),(.ref 31),(.type "ValueError"),(.type "Exception"),(.type "BaseException"),(.type "object")] 43 "BadWeb" true [] [] false none false)) #[(some (.ref 35)),none,(some (.str "BadWeb" 214)),(some (.str "BadWeb" 222)),(some (.builtin "ValueError.__new__")),(some (.bool true))])
def x26:Obj:=(.mk (.type "super") none (.fields #[(.ref 44),(.ref 44),(.ref 44)]) #[])
def x27:Obj:=(.mk (.type "builtin_function_or_method") none (.fields #[(.builtin "object.__init_subclass__"),(.ref 44)]) #[])
def x28 (P:Params):Obj:=(.mk (.type "dict") none (.dict #[(en P "__module__" 237 (.str "pebbletoll.errors" 194)),(en P "__qualname__" 239 (.str "NoPlace" 238)),(en P "__firstlineno__" 241 (.int 9 240)),(en P "__static_attributes__" 242 (.ref 54))] 4) #[])
def x29:Obj:=(cO "NoPlace" "NoPlace" 232 233 234 9 0 0 0 0 (.ref 50) false 181 (.ref 51) .none .none .none .none 235 9 236)
def x30:Obj:=(.mk (.type "frame") none .plain #[(some (.ref 52)),(some (.ref 3)),(some (.ref 49)),none,(some (.str "pebbletoll.errors" 194)),none,(some (.ref 0))])
def x31 (P:Params):Obj:=(.mk (.type "dict") none (.dict #[(en P "__module__" 237 (.str "pebbletoll.errors" 194)),(en P "__firstlineno__" 241 (.int 9 240)),(en P "__static_attributes__" 242 (.ref 54)),(en P "__doc__" 243 .none)] 2) #[])
def x32:Obj:=(.mk (.type "type") none (.cls (.mk "NoPlace" [(.ref 31)] [(.ref 56),(.ref 31),(.type "ValueError"),(.type "Exception"),(.type "BaseException"),(.type "object")] 55 "NoPlace" true [] [] false none false)) #[(some (.ref 47)),none,(some (.str "NoPlace" 230)),(some (.str "NoPlace" 238)),(some (.builtin "ValueError.__new__")),(some (.bool true))])
def x33:Obj:=(.mk (.type "super") none (.fields #[(.ref 56),(.ref 56),(.ref 56)]) #[])
def x34:Obj:=(.mk (.type "builtin_function_or_method") none (.fields #[(.builtin "object.__init_subclass__"),(.ref 56)]) #[])
def x35 (P:Params):Obj:=(.mk (.type "dict") none (.dict #[(en P "__module__" 253 (.str "pebbletoll.errors" 194)),(en P "__qualname__" 255 (.str "NoRoad" 254)),(en P "__firstlineno__" 257 (.int 11 256)),(en P "__static_attributes__" 258 (.ref 66))] 4) #[])
def x36:Obj:=(cO "NoRoad" "NoRoad" 248 249 250 11 0 0 0 0 (.ref 62) false 181 (.ref 63) .none .none .none .none 251 11 252)
def x37:Obj:=(.mk (.type "frame") none .plain #[(some (.ref 64)),(some (.ref 3)),(some (.ref 61)),none,(some (.str "pebbletoll.errors" 194)),none,(some (.ref 0))])
def x38 (P:Params):Obj:=(.mk (.type "dict") none (.dict #[(en P "__module__" 253 (.str "pebbletoll.errors" 194)),(en P "__firstlineno__" 257 (.int 11 256)),(en P "__static_attributes__" 258 (.ref 66)),(en P "__doc__" 259 .none)] 2) #[])
def x39:Obj:=(.mk (.type "type") none (.cls (.mk "NoRoad" [(.ref 31)] [(.ref 68),(.ref 31),(.type "ValueError"),(.type "Exception"),(.type "BaseException"),(.type "object")] 67 "NoRoad" true [] [] false none false)) #[(some (.ref 59)),none,(some (.str "NoRoad" 246)),(some (.str "NoRoad" 254)),(some (.builtin "ValueError.__new__")),(some (.bool true))])
def x40:Obj:=(.mk (.type "super") none (.fields #[(.ref 68),(.ref 68),(.ref 68)]) #[])
def x41:Obj:=(.mk (.type "builtin_function_or_method") none (.fields #[(.builtin "object.__init_subclass__"),(.ref 68)]) #[])
def x42 (P:Params):Obj:=(.mk (.type "dict") none (.dict #[(en P "__module__" 269 (.str "pebbletoll.errors" 194)),(en P "__qualname__" 271 (.str "BadLaying" 270)),(en P "__firstlineno__" 273 (.int 13 272)),(en P "__static_attributes__" 274 (.ref 78))] 4) #[])
def x43:Obj:=(cO "BadLaying" "BadLaying" 264 265 266 13 0 0 0 0 (.ref 74) false 181 (.ref 75) .none .none .none .none 267 13 268)
def x44:Obj:=(.mk (.type "frame") none .plain #[(some (.ref 76)),(some (.ref 3)),(some (.ref 73)),none,(some (.str "pebbletoll.errors" 194)),none,(some (.ref 0))])
def x45 (P:Params):Obj:=(.mk (.type "dict") none (.dict #[(en P "__module__" 269 (.str "pebbletoll.errors" 194)),(en P "__firstlineno__" 273 (.int 13 272)),(en P "__static_attributes__" 274 (.ref 78)),(en P "__doc__" 275 .none)] 2) #[])
def x46:Obj:=(.mk (.type "type") none (.cls (.mk "BadLaying" [(.ref 31)] [(.ref 80),(.ref 31),(.type "ValueError"),(.type "Exception"),(.type "BaseException"),(.type "object")] 79 "BadLaying" true [] [] false none false)) #[(some (.ref 71)),none,(some (.str "BadLaying" 262)),(some (.str "BadLaying" 270)),(some (.builtin "ValueError.__new__")),(some (.bool true))])
def x47:Obj:=(.mk (.type "super") none (.fields #[(.ref 80),(.ref 80),(.ref 80)]) #[])
def x48:Obj:=(.mk (.type "builtin_function_or_method") none (.fields #[(.builtin "object.__init_subclass__"),(.ref 80)]) #[])
def x49 (P:Params):Obj:=(.mk (.type "dict") none (.dict #[(en P "__module__" 285 (.str "pebbletoll.errors" 194)),(en P "__qualname__" 287 (.str "BadWish" 286)),(en P "__firstlineno__" 289 (.int 15 288)),(en P "__static_attributes__" 290 (.ref 90))] 4) #[])
def x50:Obj:=(cO "BadWish" "BadWish" 280 281 282 15 0 0 0 0 (.ref 86) false 181 (.ref 87) .none .none .none .none 283 15 284)
def x51:Obj:=(.mk (.type "frame") none .plain #[(some (.ref 88)),(some (.ref 3)),(some (.ref 85)),none,(some (.str "pebbletoll.errors" 194)),none,(some (.ref 0))])
def x52 (P:Params):Obj:=(.mk (.type "dict") none (.dict #[(en P "__module__" 285 (.str "pebbletoll.errors" 194)),(en P "__firstlineno__" 289 (.int 15 288)),(en P "__static_attributes__" 290 (.ref 90)),(en P "__doc__" 291 .none)] 2) #[])
def x53:Obj:=(.mk (.type "type") none (.cls (.mk "BadWish" [(.ref 31)] [(.ref 92),(.ref 31),(.type "ValueError"),(.type "Exception"),(.type "BaseException"),(.type "object")] 91 "BadWish" true [] [] false none false)) #[(some (.ref 83)),none,(some (.str "BadWish" 278)),(some (.str "BadWish" 286)),(some (.builtin "ValueError.__new__")),(some (.bool true))])
def x54:Obj:=(.mk (.type "super") none (.fields #[(.ref 92),(.ref 92),(.ref 92)]) #[])
def x55:Obj:=(.mk (.type "builtin_function_or_method") none (.fields #[(.builtin "object.__init_subclass__"),(.ref 92)]) #[])
def x56 (P:Params):Obj:=(.mk (.type "dict") none (.dict #[(en P "__module__" 301 (.str "pebbletoll.errors" 194)),(en P "__qualname__" 303 (.str "TooMany" 302)),(en P "__firstlineno__" 305 (.int 17 304)),(en P "__static_attributes__" 306 (.ref 102))] 4) #[])
def x57:Obj:=(cO "TooMany" "TooMany" 296 297 298 17 0 0 0 0 (.ref 98) false 181 (.ref 99) .none .none .none .none 299 17 300)
def x58:Obj:=(.mk (.type "frame") none .plain #[(some (.ref 100)),(some (.ref 3)),(some (.ref 97)),none,(some (.str "pebbletoll.errors" 194)),none,(some (.ref 0))])
def x59 (P:Params):Obj:=(.mk (.type "dict") none (.dict #[(en P "__module__" 301 (.str "pebbletoll.errors" 194)),(en P "__firstlineno__" 305 (.int 17 304)),(en P "__static_attributes__" 306 (.ref 102)),(en P "__doc__" 307 .none)] 2) #[])
def x60:Obj:=(.mk (.type "type") none (.cls (.mk "TooMany" [(.ref 31)] [(.ref 104),(.ref 31),(.type "ValueError"),(.type "Exception"),(.type "BaseException"),(.type "object")] 103 "TooMany" true [] [] false none false)) #[(some (.ref 95)),none,(some (.str "TooMany" 294)),(some (.str "TooMany" 302)),(some (.builtin "ValueError.__new__")),(some (.bool true))])
def x61:Obj:=(.mk (.type "super") none (.fields #[(.ref 104),(.ref 104),(.ref 104)]) #[])
def x62:Obj:=(.mk (.type "builtin_function_or_method") none (.fields #[(.builtin "object.__init_subclass__"),(.ref 104)]) #[])
def x63 (P:Params):Obj:=(.mk (.type "dict") none (.dict #[(en P "__module__" 317 (.str "pebbletoll.errors" 194)),(en P "__qualname__" 319 (.str "NoNumber" 318)),(en P "__firstlineno__" 321 (.int 19 320)),(en P "__static_attributes__" 322 (.ref 114))] 4) #[])
def x64:Obj:=(cO "NoNumber" "NoNumber" 312 313 314 19 0 0 0 0 (.ref 110) false 181 (.ref 111) .none .none .none .none 315 19 316)
def x65:Obj:=(.mk (.type "frame") none .plain #[(some (.ref 112)),(some (.ref 3)),(some (.ref 109)),none,(some (.str "pebbletoll.errors" 194)),none,(some (.ref 0))])
def x66 (P:Params):Obj:=(.mk (.type "dict") none (.dict #[(en P "__module__" 317 (.str "pebbletoll.errors" 194)),(en P "__firstlineno__" 321 (.int 19 320)),(en P "__static_attributes__" 322 (.ref 114)),(en P "__doc__" 323 .none)] 2) #[])
def x67:Obj:=(.mk (.type "type") none (.cls (.mk "NoNumber" [(.ref 31)] [(.ref 116),(.ref 31),(.type "ValueError"),(.type "Exception"),(.type "BaseException"),(.type "object")] 115 "NoNumber" true [] [] false none false)) #[(some (.ref 107)),none,(some (.str "NoNumber" 310)),(some (.str "NoNumber" 318)),(some (.builtin "ValueError.__new__")),(some (.bool true))])
def x68:Obj:=(.mk (.type "super") none (.fields #[(.ref 116),(.ref 116),(.ref 116)]) #[])
def x69:Obj:=(.mk (.type "builtin_function_or_method") none (.fields #[(.builtin "object.__init_subclass__"),(.ref 116)]) #[])
def x70 (P:Params):Obj:=(.mk (.type "dict") none (.dict #[(en P "__module__" 333 (.str "pebbletoll.errors" 194)),(en P "__qualname__" 335 (.str "NoWorst" 334)),(en P "__firstlineno__" 337 (.int 21 336)),(en P "__static_attributes__" 338 (.ref 126))] 4) #[])
def x71:Obj:=(cO "NoWorst" "NoWorst" 328 329 330 21 0 0 0 0 (.ref 122) false 181 (.ref 123) .none .none .none .none 331 21 332)
def x72:Obj:=(.mk (.type "frame") none .plain #[(some (.ref 124)),(some (.ref 3)),(some (.ref 121)),none,(some (.str "pebbletoll.errors" 194)),none,(some (.ref 0))])
def x73 (P:Params):Obj:=(.mk (.type "dict") none (.dict #[(en P "__module__" 333 (.str "pebbletoll.errors" 194)),(en P "__firstlineno__" 337 (.int 21 336)),(en P "__static_attributes__" 338 (.ref 126)),(en P "__doc__" 339 .none)] 2) #[])
def x74:Obj:=(.mk (.type "type") none (.cls (.mk "NoWorst" [(.ref 31)] [(.ref 128),(.ref 31),(.type "ValueError"),(.type "Exception"),(.type "BaseException"),(.type "object")] 127 "NoWorst" true [] [] false none false)) #[(some (.ref 119)),none,(some (.str "NoWorst" 326)),(some (.str "NoWorst" 334)),(some (.builtin "ValueError.__new__")),(some (.bool true))])
def x75:Obj:=(.mk (.type "super") none (.fields #[(.ref 128),(.ref 128),(.ref 128)]) #[])
def x76:Obj:=(.mk (.type "builtin_function_or_method") none (.fields #[(.builtin "object.__init_subclass__"),(.ref 128)]) #[])
noncomputable def h0 (P:Params):Heap:=.mk (.mk (boot_o_0 P::boot_o_1 P::boot_o_2 P::x4 P::boot_o_4 P::boot_o_5 P::boot_o_6 P::boot_o_7 P::boot_o_8 P::boot_o_9 P::boot_o_10 P::x0::x5::x2::x3::x0::x1::x6::x0::x7::x8::x9::x10::x11::x12 P::x0::x1::x13::x14::x0::x15 P::x16::x17::x18::x19::x20::x11::x21 P::x0::x1::x22::x23::x0::x24 P::x25::x26::x27::x20::x11::x28 P::x0::x1::x29::x30::x0::x31 P::x32::x33::x34::x20::x11::x35 P::x0::x1::x36::x37::x0::x38 P::x39::x40::x41::x20::x11::x42 P::x0::x1::x43::x44::x0::x45 P::x46::x47::x48::x20::x11::x49 P::x0::x1::x50::x51::x0::x52 P::x53::x54::x55::x20::x11::x56 P::x0::x1::x57::x58::x0::x59 P::x60::x61::x62::x20::x11::x63 P::x0::x1::x64::x65::x0::x66 P::x67::x68::x69::x20::x11::x70 P::x0::x1::x71::x72::x0::x73 P::x74::x75::x76::[])) (.mk [] [] [] 0 [] [] false #[] [] 0 false false false 0 [2000,10,10] false 0 true [] [] 0 false)
theorem US (w:World) (os:OsState):segRun treeTable PySem.Challenge.pw_pebbletoll_k62_desk_deeds_refused w 11 (some (.ref 6)) 1 1929 (Shared.mk (hb w.params) (.mk []) (.mk 0 0 0 0) 187 os) (piecesOf st0 env cE (.mk 0 0 0 0) [topFrame (.mk 0 0 0 0)])=some (.next,(Shared.mk (h0 w.params) (.mk []) (.mk 0 0 0 0) 342 os),cE,(.mk 21 0 22 8)):=by kernel_rfl
def x77 (P:Params):Obj:=(.mk (.type "dict") none (.dict #[(en P "__name__" 165 (.str "law_pebbletoll_k62_desk_deeds_refused" 710)),(en P "__doc__" 166 .none),(en P "__package__" 167 .none),(en P "__loader__" 168 (.builtin "__main__.__loader__#opaque")),(en P "__spec__" 169 .none),(en P "__annotations__" 170 (.ref 6)),(en P "__builtins__" 171 (.ref 4)),(en P "__file__" 173 (.str "/claim/cut.py" 172)),(en P "__cached__" 174 .none),(en P "_wall" 193 (.ref 21)),(en P "TollError" 213 (.ref 31)),(en P "BadWeb" 229 (.ref 44)),(en P "NoPlace" 245 (.ref 56)),(en P "NoRoad" 261 (.ref 68)),(en P "BadLaying" 277 (.ref 80)),(en P "BadWish" 293 (.ref 92)),(en P "TooMany" 309 (.ref 104)),(en P "NoNumber" 325 (.ref 116)),(en P "NoWorst" 341 (.ref 128)),(en P "NoDeed" 357 (.ref 140)),(en P "BadStep" 382 (.ref 159)),(en P "MOST_PLACES" 386 (.int 24 385)),(en P "LEAST_TOLL" 388 (.int 2 387)),(en P "MOST_TOLL" 390 (.int 1000000 389)),(en P "Web" 418 (.ref 176)),(en P "toll" 431 (.ref 187)),(en P "neighbours" 439 (.ref 194)),(en P "check_place" 447 (.ref 201)),(en P "is_place" 455 (.ref 208)),(en P "check_counts" 463 (.ref 215)),(en P "check_ends" 471 (.ref 222)),(en P "check_tolls" 479 (.ref 229)),(en P "check_joined" 491 (.ref 236)),(en P "other_ends" 501 (.ref 243)),(en P "laying_of" 511 (.ref 250)),(en P "is_filled" 517 (.ref 255)),(en P "pile" 526 (.ref 262)),(en P "put" 537 (.ref 269)),(en P "walked" 548 (.ref 276)),(en P "layings" 560 (.ref 283)),(en P "can_be_done" 569 (.ref 290)),(en P "is_step" 577 (.ref 297)),(en P "taken" 585 (.ref 304)),(en P "behind" 595 (.ref 311)),(en P "wish_of" 605 (.ref 318)),(en P "Desk" 709 (.ref 396)),(en P "_law_cell" 719 (.ref 407)),(en P "_law_row" 733 (.ref 414)),(en P "_law_tolls" 742 (.ref 421))] 49) #[])
def x78:Obj:=(.mk .none none (.fields #[(.int 1 0),(.int 0 0),(.ref 20),(.int 5 0),(.int 0 0),(.ref 27),(.int 7 0),(.int 0 0),(.ref 40),(.int 9 0),(.int 0 0),(.ref 52),(.int 11 0),(.int 0 0),(.ref 64),(.int 13 0),(.int 0 0),(.ref 76),(.int 15 0),(.int 0 0),(.ref 88),(.int 17 0),(.int 0 0),(.ref 100),(.int 19 0),(.int 0 0),(.ref 112),(.int 21 0),(.int 0 0),(.ref 124),(.int 23 0),(.int 0 0),(.ref 136),(.int 25 0),(.int 0 0),(.ref 148),(.int 34 0),(.int 0 0),(.ref 167),(.int 45 0),(.int 0 0),(.ref 186),(.int 54 0),(.int 0 0),(.ref 193),(.int 57 0),(.int 0 0),(.ref 200),(.int 60 0),(.int 0 0),(.ref 207),(.int 62 0),(.int 0 0),(.ref 214),(.int 67 0),(.int 0 0),(.ref 221),(.int 72 0),(.int 0 0),(.ref 228),(.int 76 0),(.int 0 0),(.ref 235),(.int 87 0),(.int 0 0),(.ref 242),(.int 96 0),(.int 0 0),(.ref 249),(.int 100 0),(.int 0 0),(.ref 254),(.int 102 0),(.int 0 0),(.ref 261),(.int 104 0),(.int 0 0),(.ref 268),(.int 110 0),(.int 0 0),(.ref 275),(.int 112 0),(.int 0 0),(.ref 282),(.int 119 0),(.int 0 0),(.ref 289),(.int 121 0),(.int 0 0),(.ref 296),(.int 123 0),(.int 0 0),(.ref 303),(.int 125 0),(.int 0 0),(.ref 310),(.int 131 0),(.int 0 0),(.ref 317),(.int 136 0),(.int 0 0),(.ref 324),(.int 176 0),(.int 0 0),(.ref 406),(.int 180 0),(.int 0 0),(.ref 413),(.int 192 0),(.int 0 0),(.ref 420)]) #[])
def x79:Obj:=(.mk (.type "type") none (.cls (.mk "TollError" [(.type "ValueError")] [(.ref 31),(.type "ValueError"),(.type "Exception"),(.type "BaseException"),(.type "object")] 30 "TollError" true [] [(.ref 44),(.ref 56),(.ref 68),(.ref 80),(.ref 92),(.ref 104),(.ref 116),(.ref 128),(.ref 140),(.ref 159)] false none false)) #[(some (.ref 22)),none,(some (.str "TollError" 196)),(some (.str "TollError" 204)),(some (.builtin "ValueError.__new__")),(some (.bool true))])
def x80 (P:Params):Obj:=(.mk (.type "dict") none (.dict #[(en P "__module__" 349 (.str "pebbletoll.errors" 194)),(en P "__qualname__" 351 (.str "NoDeed" 350)),(en P "__firstlineno__" 353 (.int 23 352)),(en P "__static_attributes__" 354 (.ref 138))] 4) #[])
def x81:Obj:=(cO "NoDeed" "NoDeed" 344 345 346 23 0 0 0 0 (.ref 134) false 181 (.ref 135) .none .none .none .none 347 23 348)
def x82:Obj:=(.mk (.type "frame") none .plain #[(some (.ref 136)),(some (.ref 3)),(some (.ref 133)),none,(some (.str "pebbletoll.errors" 194)),none,(some (.ref 0))])
def x83 (P:Params):Obj:=(.mk (.type "dict") none (.dict #[(en P "__module__" 349 (.str "pebbletoll.errors" 194)),(en P "__firstlineno__" 353 (.int 23 352)),(en P "__static_attributes__" 354 (.ref 138)),(en P "__doc__" 355 .none)] 2) #[])
def x84:Obj:=(.mk (.type "type") none (.cls (.mk "NoDeed" [(.ref 31)] [(.ref 140),(.ref 31),(.type "ValueError"),(.type "Exception"),(.type "BaseException"),(.type "object")] 139 "NoDeed" true [] [] false none false)) #[(some (.ref 131)),none,(some (.str "NoDeed" 342)),(some (.str "NoDeed" 350)),(some (.builtin "ValueError.__new__")),(some (.bool true))])
def x85:Obj:=(.mk (.type "super") none (.fields #[(.ref 140),(.ref 140),(.ref 140)]) #[])
def x86:Obj:=(.mk (.type "builtin_function_or_method") none (.fields #[(.builtin "object.__init_subclass__"),(.ref 140)]) #[])
def x87 (P:Params):Obj:=(.mk (.type "dict") none (.dict #[(en P "__module__" 365 (.str "pebbletoll.errors" 194)),(en P "__qualname__" 367 (.str "BadStep" 366)),(en P "__firstlineno__" 369 (.int 25 368)),(en P "__init__" 377 (.ref 156)),(en P "__static_attributes__" 379 (.ref 157))] 5) #[])
def x88:Obj:=(.mk .none none (.fields #[(.int 27 0),(.int 4 0),(.ref 155)]) #[])
def x89:Obj:=(cO "BadStep" "BadStep" 360 361 362 25 0 0 0 0 (.ref 146) false 181 (.ref 147) .none .none .none .none 363 25 364)
def x90:Obj:=(.mk (.type "frame") none .plain #[(some (.ref 148)),(some (.ref 3)),(some (.ref 145)),none,(some (.str "pebbletoll.errors" 194)),none,(some (.ref 0))])
def x91:Obj:=(tO #[(.str "self" 373),(.str "at" 374)])
def x92:Obj:=(fR "__init__" "BadStep.__init__" (inC (top 12) 0))
def x93:Obj:=(cO "__init__" "BadStep.__init__" 370 371 372 27 2 0 0 3 (.ref 150) true 181 (.ref 151) .none (.ref 152) (.ref 153) (.ref 154) 375 27 376)
def x94:Obj:=(fO "__init__" "BadStep.__init__" (inC (top 12) 0) (.str "pebbletoll.errors" 194) (.ref 155))
def x95:Obj:=(tO #[(.str "at" 378)])
def x96 (P:Params):Obj:=(.mk (.type "dict") none (.dict #[(en P "__module__" 365 (.str "pebbletoll.errors" 194)),(en P "__firstlineno__" 369 (.int 25 368)),(en P "__init__" 377 (.ref 156)),(en P "__static_attributes__" 379 (.ref 157)),(en P "__doc__" 380 .none)] 2) #[])
def x97:Obj:=(.mk (.type "type") none (.cls (.mk "BadStep" [(.ref 31)] [(.ref 159),(.ref 31),(.type "ValueError"),(.type "Exception"),(.type "BaseException"),(.type "object")] 158 "BadStep" true [] [] false none false)) #[(some (.ref 143)),none,(some (.str "BadStep" 358)),(some (.str "BadStep" 366)),(some (.builtin "ValueError.__new__")),(some (.bool true))])
def x98:Obj:=(.mk (.type "super") none (.fields #[(.ref 159),(.ref 159),(.ref 159)]) #[])
def x99:Obj:=(.mk (.type "builtin_function_or_method") none (.fields #[(.builtin "object.__init_subclass__"),(.ref 159)]) #[])
def PV (P:Params):Obj:=(.mk (.type "dict") none (.dict #[(en P "__module__" 398 (.str "pebbletoll.webs" 383)),(en P "__qualname__" 400 (.str "Web" 399)),(en P "__firstlineno__" 402 (.int 34 401)),(en P "__init__" 408 (.ref 173)),(en P "__static_attributes__" 411 (.ref 174))] 5) #[])
def PN:Obj:=(.mk .none none (.fields #[(.int 36 0),(.int 4 0),(.ref 172)]) #[])
def PZ:Obj:=(cO "Web" "Web" 393 394 395 34 0 0 0 0 (.ref 165) false 181 (.ref 166) .none .none .none .none 396 34 397)
def Qm:Obj:=(.mk (.type "frame") none .plain #[(some (.ref 167)),(some (.ref 3)),(some (.ref 164)),none,(some (.str "pebbletoll.webs" 383)),none,(some (.ref 0))])
def Q9:Obj:=(fR "__init__" "Web.__init__" (inC (top 17) 0))
def LB:Obj:=(cO "__init__" "Web.__init__" 403 404 405 36 3 0 0 3 (.ref 169) true 181 (.ref 170) .none .none .none (.ref 171) 406 36 407)
def Lx:Obj:=(fO "__init__" "Web.__init__" (inC (top 17) 0) (.str "pebbletoll.webs" 383) (.ref 172))
def MT:Obj:=(tO #[(.str "many" 409),(.str "roads" 410)])
def Kn (P:Params):Obj:=(.mk (.type "dict") none (.dict #[(en P "__module__" 398 (.str "pebbletoll.webs" 383)),(en P "__firstlineno__" 402 (.int 34 401)),(en P "__init__" 408 (.ref 173)),(en P "__static_attributes__" 411 (.ref 174)),(en P "__dict__" 413 (.ref 177)),(en P "__weakref__" 415 (.ref 178)),(en P "__doc__" 416 .none)] 4) #[])
def Lo:Obj:=(.mk (.type "type") none (.cls (.mk "Web" [(.type "object")] [(.ref 176),(.type "object")] 175 "Web" true [] [] false none false)) #[none,none,(some (.str "Web" 391)),(some (.str "Web" 399)),(some (.builtin "object.__new__")),(some (.bool true))])
def K4:Obj:=(.mk (.type "getset_descriptor") none (.fields #[(.str "__dict__" 412),(.ref 176),(.builtin "function.__dict__"),(.builtin "function.__dict__#set")]) #[])
def Kk:Obj:=(.mk (.type "getset_descriptor") none (.fields #[(.str "__weakref__" 414),(.ref 176),(.builtin "ExceptionGroup.__weakref__"),.none]) #[])
def Qx:Obj:=(.mk (.type "super") none (.fields #[(.ref 176),(.ref 176),(.ref 176)]) #[])
def Pd:Obj:=(.mk (.type "builtin_function_or_method") none (.fields #[(.builtin "object.__init_subclass__"),(.ref 176)]) #[])
def Mw:Obj:=(tO #[(.str "web" 422),(.str "a" 423),(.str "b" 424),(.str "one" 425),(.str "other" 426),(.str "there" 427),(.str "back" 428)])
def RI:Obj:=(fR "toll" "toll" (top 18))
def Kl:Obj:=(cO "toll" "toll" 419 420 421 45 3 0 0 3 (.ref 181) true 181 (.ref 182) .none (.ref 183) (.ref 184) (.ref 185) 429 45 430)
def KD:Obj:=(fO "toll" "toll" (top 18) (.str "pebbletoll.webs" 383) (.ref 186))
def Ky:Obj:=(tO #[(.str "web" 435),(.str "a" 436)])
def Qk:Obj:=(fR "neighbours" "neighbours" (top 19))
def L9:Obj:=(cO "neighbours" "neighbours" 432 433 434 54 2 0 0 3 (.ref 188) true 181 (.ref 189) .none (.ref 190) (.ref 191) (.ref 192) 437 54 438)
def Ms:Obj:=(fO "neighbours" "neighbours" (top 19) (.str "pebbletoll.webs" 383) (.ref 193))
def J6:Obj:=(tO #[(.str "web" 443),(.str "number" 444)])
def Px:Obj:=(fR "check_place" "check_place" (top 20))
def La:Obj:=(cO "check_place" "check_place" 440 441 442 57 2 0 0 3 (.ref 195) true 181 (.ref 196) .none (.ref 197) (.ref 198) (.ref 199) 445 57 446)
def KP:Obj:=(fO "check_place" "check_place" (top 20) (.str "pebbletoll.webs" 383) (.ref 200))
def MG:Obj:=(tO #[(.str "many" 451),(.str "number" 452)])
def Qf:Obj:=(fR "is_place" "is_place" (top 21))
def JK:Obj:=(cO "is_place" "is_place" 448 449 450 60 2 0 0 3 (.ref 202) true 181 (.ref 203) .none (.ref 204) (.ref 205) (.ref 206) 453 60 454)
def Mi:Obj:=(fO "is_place" "is_place" (top 21) (.str "pebbletoll.webs" 383) (.ref 207))
def Mv:Obj:=(tO #[(.str "many" 459),(.str "roads" 460)])
def Re:Obj:=(fR "check_counts" "check_counts" (top 22))
def Lm:Obj:=(cO "check_counts" "check_counts" 456 457 458 62 2 0 0 3 (.ref 209) true 181 (.ref 210) .none (.ref 211) (.ref 212) (.ref 213) 461 62 462)
def KQ:Obj:=(fO "check_counts" "check_counts" (top 22) (.str "pebbletoll.webs" 383) (.ref 214))
def KL:Obj:=(tO #[(.str "many" 467),(.str "road" 468)])
def Rj:Obj:=(fR "check_ends" "check_ends" (top 23))
def MV:Obj:=(cO "check_ends" "check_ends" 464 465 466 67 2 0 0 3 (.ref 216) true 181 (.ref 217) .none (.ref 218) (.ref 219) (.ref 220) 469 67 470)
def JH:Obj:=(fO "check_ends" "check_ends" (top 23) (.str "pebbletoll.webs" 383) (.ref 221))
def Jx:Obj:=(tO #[(.str "road" 475),(.str "number" 476)])
def RA:Obj:=(fR "check_tolls" "check_tolls" (top 24))
def KG:Obj:=(cO "check_tolls" "check_tolls" 472 473 474 72 1 0 0 3 (.ref 223) true 181 (.ref 224) .none (.ref 225) (.ref 226) (.ref 227) 477 72 478)
def Mu:Obj:=(fO "check_tolls" "check_tolls" (top 24) (.str "pebbletoll.webs" 383) (.ref 228))
def Jw:Obj:=(tO #[(.str "many" 483),(.str "roads" 484),(.str "reached" 485),(.str "waiting" 486),(.str "place" 487),(.str "end" 488)])
def Rq:Obj:=(fR "check_joined" "check_joined" (top 25))
def Lq:Obj:=(cO "check_joined" "check_joined" 480 481 482 76 2 0 0 3 (.ref 230) true 181 (.ref 231) .none (.ref 232) (.ref 233) (.ref 234) 489 76 490)
def KH:Obj:=(fO "check_joined" "check_joined" (top 25) (.str "pebbletoll.webs" 383) (.ref 235))
def Lk:Obj:=(tO #[(.str "roads" 495),(.str "place" 496),(.str "ends" 497),(.str "road" 498)])
def Qo:Obj:=(fR "other_ends" "other_ends" (top 26))
def Kt:Obj:=(cO "other_ends" "other_ends" 492 493 494 87 2 0 0 3 (.ref 237) true 181 (.ref 238) .none (.ref 239) (.ref 240) (.ref 241) 499 87 500)
def MW:Obj:=(fO "other_ends" "other_ends" (top 26) (.str "pebbletoll.webs" 383) (.ref 242))
def MQ:Obj:=(tO #[(.str "web" 507),(.str "numbers" 508)])
def Ps:Obj:=(fR "laying_of" "laying_of" (top 28))
def LW:Obj:=(cO "laying_of" "laying_of" 504 505 506 96 2 0 0 3 (.ref 244) true 181 (.ref 245) .none (.ref 246) (.ref 247) (.ref 248) 509 96 510)
def MA:Obj:=(fO "laying_of" "laying_of" (top 28) (.str "pebbletoll.layings" 502) (.ref 249))
def Rm:Obj:=(fR "is_filled" "is_filled" (top 29))
def Mf:Obj:=(cO "is_filled" "is_filled" 512 513 514 100 2 0 0 3 (.ref 251) true 181 (.ref 252) .none .none .none (.ref 253) 515 100 516)
def Lh:Obj:=(fO "is_filled" "is_filled" (top 29) (.str "pebbletoll.layings" 502) (.ref 254))
def Jo:Obj:=(tO #[(.str "web" 521),(.str "place" 522),(.str "many" 523)])
def Q6:Obj:=(fR "pile" "pile" (top 30))
def K7:Obj:=(cO "pile" "pile" 518 519 520 102 3 0 0 3 (.ref 256) true 181 (.ref 257) .none (.ref 258) (.ref 259) (.ref 260) 524 102 525)
def LG:Obj:=(fO "pile" "pile" (top 30) (.str "pebbletoll.layings" 502) (.ref 261))
def Mg:Obj:=(tO #[(.str "web" 530),(.str "laying" 531),(.str "place" 532),(.str "many" 533),(.str "counts" 534)])
def Rt:Obj:=(fR "put" "put" (top 31))
def J7:Obj:=(cO "put" "put" 527 528 529 104 4 0 0 3 (.ref 263) true 181 (.ref 264) .none (.ref 265) (.ref 266) (.ref 267) 535 104 536)
def MK:Obj:=(fO "put" "put" (top 31) (.str "pebbletoll.layings" 502) (.ref 268))
def LH:Obj:=(tO #[(.str "web" 543),(.str "laying" 544),(.str "steps" 545)])
def Pw:Obj:=(fR "walked" "walked" (top 33))
def LS:Obj:=(cO "walked" "walked" 540 541 542 110 3 0 0 3 (.ref 270) true 181 (.ref 271) .none (.ref 272) (.ref 273) (.ref 274) 546 110 547)
def Mt:Obj:=(fO "walked" "walked" (top 33) (.str "pebbletoll.steps" 538) (.ref 275))
def LV:Obj:=(tO #[(.str "web" 552),(.str "laying" 553),(.str "steps" 554),(.str "passed" 555),(.str "at" 556),(.str "step" 557)])
def O8:Obj:=(fR "layings" "layings" (top 34))
def KU:Obj:=(cO "layings" "layings" 549 550 551 112 3 0 0 3 (.ref 277) true 181 (.ref 278) .none (.ref 279) (.ref 280) (.ref 281) 558 112 559)
def Jy:Obj:=(fO "layings" "layings" (top 34) (.str "pebbletoll.steps" 538) (.ref 282))
def LK:Obj:=(tO #[(.str "web" 564),(.str "laying" 565),(.str "step" 566)])
def QA:Obj:=(fR "can_be_done" "can_be_done" (top 35))
def KN:Obj:=(cO "can_be_done" "can_be_done" 561 562 563 119 3 0 0 3 (.ref 284) true 181 (.ref 285) .none (.ref 286) (.ref 287) (.ref 288) 567 119 568)
def KY:Obj:=(fO "can_be_done" "can_be_done" (top 35) (.str "pebbletoll.steps" 538) (.ref 289))
def MD:Obj:=(tO #[(.str "web" 573),(.str "step" 574)])
def O6:Obj:=(fR "is_step" "is_step" (top 36))
def Lb:Obj:=(cO "is_step" "is_step" 570 571 572 121 2 0 0 3 (.ref 291) true 181 (.ref 292) .none (.ref 293) (.ref 294) (.ref 295) 575 121 576)
def Mh:Obj:=(fO "is_step" "is_step" (top 36) (.str "pebbletoll.steps" 538) (.ref 296))
def Kw:Obj:=(tO #[(.str "web" 581),(.str "step" 582)])
def RB:Obj:=(fR "taken" "taken" (top 37))
def Md:Obj:=(cO "taken" "taken" 578 579 580 123 2 0 0 3 (.ref 298) true 181 (.ref 299) .none (.ref 300) (.ref 301) (.ref 302) 583 123 584)
def LU:Obj:=(fO "taken" "taken" (top 37) (.str "pebbletoll.steps" 538) (.ref 303))
def Kr:Obj:=(tO #[(.str "web" 589),(.str "laying" 590),(.str "step" 591),(.str "counts" 592)])
def PB:Obj:=(fR "behind" "behind" (top 38))
def KO:Obj:=(cO "behind" "behind" 586 587 588 125 3 0 0 3 (.ref 305) true 181 (.ref 306) .none (.ref 307) (.ref 308) (.ref 309) 593 125 594)
def L7:Obj:=(fO "behind" "behind" (top 38) (.str "pebbletoll.steps" 538) (.ref 310))
def JX:Obj:=(tO #[(.str "web" 601),(.str "numbers" 602)])
def Ra:Obj:=(fR "wish_of" "wish_of" (top 40))
def LQ:Obj:=(cO "wish_of" "wish_of" 598 599 600 131 2 0 0 3 (.ref 312) true 181 (.ref 313) .none (.ref 314) (.ref 315) (.ref 316) 603 131 604)
def Lg:Obj:=(fO "wish_of" "wish_of" (top 40) (.str "pebbletoll.wishes" 596) (.ref 317))
def Rv (P:Params):Obj:=(.mk (.type "dict") none (.dict #[(en P "__module__" 615 (.str "pebbletoll.desk" 606)),(en P "__qualname__" 617 (.str "Desk" 616)),(en P "__firstlineno__" 619 (.int 136 618)),(en P "__init__" 628 (.ref 332)),(en P "put" 634 (.ref 337)),(en P "want" 644 (.ref 344)),(en P "step" 654 (.ref 351)),(en P "keep" 663 (.ref 358)),(en P "back" 670 (.ref 365)),(en P "laying" 677 (.ref 372)),(en P "wish" 684 (.ref 379)),(en P "deeds" 691 (.ref 386)),(en P "answer" 699 (.ref 393)),(en P "__static_attributes__" 702 (.ref 394))] 14) #[])
def QJ:Obj:=(.mk .none none (.fields #[(.int 138 0),(.int 4 0),(.ref 331),(.int 143 0),(.int 4 0),(.ref 336),(.int 147 0),(.int 4 0),(.ref 343),(.int 153 0),(.int 4 0),(.ref 350),(.int 156 0),(.int 4 0),(.ref 357),(.int 159 0),(.int 4 0),(.ref 364),(.int 164 0),(.int 4 0),(.ref 371),(.int 167 0),(.int 4 0),(.ref 378),(.int 170 0),(.int 4 0),(.ref 385),(.int 173 0),(.int 4 0),(.ref 392)]) #[])
def Qr:Obj:=(cO "Desk" "Desk" 610 611 612 136 0 0 0 0 (.ref 322) false 181 (.ref 323) .none .none .none .none 613 136 614)
def RD:Obj:=(.mk (.type "frame") none .plain #[(some (.ref 324)),(some (.ref 3)),(some (.ref 321)),none,(some (.str "pebbletoll.desk" 606)),none,(some (.ref 0))])
def Ma:Obj:=(tO #[(.str "self" 623),(.str "web" 624),(.str "noughts" 625)])
def PL:Obj:=(fR "__init__" "Desk.__init__" (inC (top 42) 0))
def L8:Obj:=(cO "__init__" "Desk.__init__" 620 621 622 138 2 0 0 3 (.ref 326) true 181 (.ref 327) .none (.ref 328) (.ref 329) (.ref 330) 626 138 627)
def JU:Obj:=(fO "__init__" "Desk.__init__" (inC (top 42) 0) (.str "pebbletoll.desk" 606) (.ref 331))
def Qz:Obj:=(fR "put" "Desk.put" (inC (top 42) 1))
def MF:Obj:=(cO "put" "Desk.put" 629 630 631 143 3 0 0 3 (.ref 333) true 181 (.ref 334) .none .none .none (.ref 335) 632 143 633)
def JD:Obj:=(fO "put" "Desk.put" (inC (top 42) 1) (.str "pebbletoll.desk" 606) (.ref 336))
def JI:Obj:=(tO #[(.str "self" 638),(.str "place" 639),(.str "many" 640),(.str "wanted" 641)])
def RF:Obj:=(fR "want" "Desk.want" (inC (top 42) 2))
def ME:Obj:=(cO "want" "Desk.want" 635 636 637 147 3 0 0 3 (.ref 338) true 181 (.ref 339) .none (.ref 340) (.ref 341) (.ref 342) 642 147 643)
def MN:Obj:=(fO "want" "Desk.want" (inC (top 42) 2) (.str "pebbletoll.desk" 606) (.ref 343))
def LL:Obj:=(tO #[(.str "self" 648),(.str "a" 649),(.str "b" 650),(.str "times" 651)])
def Pl:Obj:=(fR "step" "Desk.step" (inC (top 42) 3))
def KA:Obj:=(cO "step" "Desk.step" 645 646 647 153 4 0 0 3 (.ref 345) true 181 (.ref 346) .none (.ref 347) (.ref 348) (.ref 349) 652 153 653)
def KZ:Obj:=(fO "step" "Desk.step" (inC (top 42) 3) (.str "pebbletoll.desk" 606) (.ref 350))
def JY:Obj:=(tO #[(.str "self" 658),(.str "laying" 659),(.str "wish" 660)])
def Pg:Obj:=(fR "keep" "Desk.keep" (inC (top 42) 4))
def MC:Obj:=(cO "keep" "Desk.keep" 655 656 657 156 3 0 0 3 (.ref 352) true 181 (.ref 353) .none (.ref 354) (.ref 355) (.ref 356) 661 156 662)
def LM:Obj:=(fO "keep" "Desk.keep" (inC (top 42) 4) (.str "pebbletoll.desk" 606) (.ref 357))
def JF:Obj:=(tO #[(.str "self" 667)])
def Rh:Obj:=(fR "back" "Desk.back" (inC (top 42) 5))
def J8:Obj:=(cO "back" "Desk.back" 664 665 666 159 1 0 0 3 (.ref 359) true 181 (.ref 360) .none (.ref 361) (.ref 362) (.ref 363) 668 159 669)
def KS:Obj:=(fO "back" "Desk.back" (inC (top 42) 5) (.str "pebbletoll.desk" 606) (.ref 364))
def Jv:Obj:=(tO #[(.str "self" 674)])
def PP:Obj:=(fR "laying" "Desk.laying" (inC (top 42) 6))
def JM:Obj:=(cO "laying" "Desk.laying" 671 672 673 164 1 0 0 3 (.ref 366) true 181 (.ref 367) .none (.ref 368) (.ref 369) (.ref 370) 675 164 676)
def Mr:Obj:=(fO "laying" "Desk.laying" (inC (top 42) 6) (.str "pebbletoll.desk" 606) (.ref 371))
def Ku:Obj:=(tO #[(.str "self" 681)])
def QT:Obj:=(fR "wish" "Desk.wish" (inC (top 42) 7))
def Kq:Obj:=(cO "wish" "Desk.wish" 678 679 680 167 1 0 0 3 (.ref 373) true 181 (.ref 374) .none (.ref 375) (.ref 376) (.ref 377) 682 167 683)
def Lv:Obj:=(fO "wish" "Desk.wish" (inC (top 42) 7) (.str "pebbletoll.desk" 606) (.ref 378))
def KJ:Obj:=(tO #[(.str "self" 688)])
def PD:Obj:=(fR "deeds" "Desk.deeds" (inC (top 42) 8))
def KI:Obj:=(cO "deeds" "Desk.deeds" 685 686 687 170 1 0 0 3 (.ref 380) true 181 (.ref 381) .none (.ref 382) (.ref 383) (.ref 384) 689 170 690)
def JP:Obj:=(fO "deeds" "Desk.deeds" (inC (top 42) 8) (.str "pebbletoll.desk" 606) (.ref 385))
def Lz:Obj:=(tO #[(.str "self" 695),(.str "row" 696)])
def Q7:Obj:=(fR "answer" "Desk.answer" (inC (top 42) 9))
def Mp:Obj:=(cO "answer" "Desk.answer" 692 693 694 173 2 0 0 3 (.ref 387) true 181 (.ref 388) .none (.ref 389) (.ref 390) (.ref 391) 697 173 698)
def Mm:Obj:=(fO "answer" "Desk.answer" (inC (top 42) 9) (.str "pebbletoll.desk" 606) (.ref 392))
def LD:Obj:=(tO #[(.str "past" 700),(.str "web" 701)])
def MR (P:Params):Obj:=(.mk (.type "dict") none (.dict #[(en P "__module__" 615 (.str "pebbletoll.desk" 606)),(en P "__firstlineno__" 619 (.int 136 618)),(en P "__init__" 628 (.ref 332)),(en P "put" 634 (.ref 337)),(en P "want" 644 (.ref 344)),(en P "step" 654 (.ref 351)),(en P "keep" 663 (.ref 358)),(en P "back" 670 (.ref 365)),(en P "laying" 677 (.ref 372)),(en P "wish" 684 (.ref 379)),(en P "deeds" 691 (.ref 386)),(en P "answer" 699 (.ref 393)),(en P "__static_attributes__" 702 (.ref 394)),(en P "__dict__" 704 (.ref 397)),(en P "__weakref__" 706 (.ref 398)),(en P "__doc__" 707 .none)] 4) #[])
def ML:Obj:=(.mk (.type "type") none (.cls (.mk "Desk" [(.type "object")] [(.ref 396),(.type "object")] 395 "Desk" true [] [] false none false)) #[none,none,(some (.str "Desk" 608)),(some (.str "Desk" 616)),(some (.builtin "object.__new__")),(some (.bool true))])
def JL:Obj:=(.mk (.type "getset_descriptor") none (.fields #[(.str "__dict__" 703),(.ref 396),(.builtin "function.__dict__"),(.builtin "function.__dict__#set")]) #[])
def L6:Obj:=(.mk (.type "getset_descriptor") none (.fields #[(.str "__weakref__" 705),(.ref 396),(.builtin "ExceptionGroup.__weakref__"),.none]) #[])
def QQ:Obj:=(.mk (.type "super") none (.fields #[(.ref 396),(.ref 396),(.ref 396)]) #[])
def Py:Obj:=(.mk (.type "builtin_function_or_method") none (.fields #[(.builtin "object.__init_subclass__"),(.ref 396)]) #[])
def Kd:Obj:=(tO #[(.str "script" 715),(.str "k" 716)])
def Pp:Obj:=(fR "_law_cell" "_law_cell" (top 44))
def MS:Obj:=(cO "_law_cell" "_law_cell" 712 713 714 176 2 0 0 3 (.ref 401) true 181 (.ref 402) .none (.ref 403) (.ref 404) (.ref 405) 717 176 718)
def K9:Obj:=(fO "_law_cell" "_law_cell" (top 44) (.str "law_pebbletoll_k62_desk_deeds_refused" 710) (.ref 406))
def Li:Obj:=(tO #[(.str "cell" 723),(.str "mode" 724),(.str "many" 725),(.str "base" 726),(.str "found" 727),(.str "rest" 728),(.str "k" 729),(.str "m" 730)])
def P2:Obj:=(fR "_law_row" "_law_row" (top 45))
def JJ:Obj:=(cO "_law_row" "_law_row" 720 721 722 180 4 0 0 3 (.ref 408) true 181 (.ref 409) .none (.ref 410) (.ref 411) (.ref 412) 731 180 732)
def JG:Obj:=(fO "_law_row" "_law_row" (top 45) (.str "law_pebbletoll_k62_desk_deeds_refused" 710) (.ref 413))
def JZ:Obj:=(tO #[(.str "t" 737),(.str "there" 738),(.str "back" 739)])
def Rr:Obj:=(fR "_law_tolls" "_law_tolls" (top 46))
def Ks:Obj:=(cO "_law_tolls" "_law_tolls" 734 735 736 192 1 0 0 3 (.ref 415) true 181 (.ref 416) .none (.ref 417) (.ref 418) (.ref 419) 740 192 741)
def K6:Obj:=(fO "_law_tolls" "_law_tolls" (top 46) (.str "law_pebbletoll_k62_desk_deeds_refused" 710) (.ref 420))
noncomputable def h1 (P:Params):Heap:=.mk (.mk (boot_o_0 P::boot_o_1 P::boot_o_2 P::x77 P::boot_o_4 P::boot_o_5 P::boot_o_6 P::boot_o_7 P::boot_o_8 P::boot_o_9 P::boot_o_10 P::x0::x78::x2::x3::x0::x1::x6::x0::x7::x8::x9::x10::x11::x12 P::x0::x1::x13::x14::x0::x15 P::x79::x17::x18::x19::x20::x11::x21 P::x0::x1::x22::x23::x0::x24 P::x25::x26::x27::x20::x11::x28 P::x0::x1::x29::x30::x0::x31 P::x32::x33::x34::x20::x11::x35 P::x0::x1::x36::x37::x0::x38 P::x39::x40::x41::x20::x11::x42 P::x0::x1::x43::x44::x0::x45 P::x46::x47::x48::x20::x11::x49 P::x0::x1::x50::x51::x0::x52 P::x53::x54::x55::x20::x11::x56 P::x0::x1::x57::x58::x0::x59 P::x60::x61::x62::x20::x11::x63 P::x0::x1::x64::x65::x0::x66 P::x67::x68::x69::x20::x11::x70 P::x0::x1::x71::x72::x0::x73 P::x74::x75::x76::x20::x11::x80 P::x0::x1::x81::x82::x0::x83 P::x84::x85::x86::x20::x11::x87 P::x0::x88::x89::x90::x0::x1::x91::x0::x92::x93::x94::x95::x96 P::x97::x98::x99::x0::x11::PV P::x0::PN::PZ::Qm::x0::x1::Q9::LB::Lx::MT::Kn P::Lo::K4::Kk::Qx::Pd::x0::x1::Mw::x0::RI::Kl::KD::x0::x1::Ky::x0::Qk::L9::Ms::x0::x1::J6::x0::Px::La::KP::x0::x1::MG::x0::Qf::JK::Mi::x0::x1::Mv::x0::Re::Lm::KQ::x0::x1::KL::x0::Rj::MV::JH::x0::x1::Jx::x0::RA::KG::Mu::x0::x1::Jw::x0::Rq::Lq::KH::x0::x1::Lk::x0::Qo::Kt::MW::x0::x1::MQ::x0::Ps::LW::MA::x0::x1::Rm::Mf::Lh::x0::x1::Jo::x0::Q6::K7::LG::x0::x1::Mg::x0::Rt::J7::MK::x0::x1::LH::x0::Pw::LS::Mt::x0::x1::LV::x0::O8::KU::Jy::x0::x1::LK::x0::QA::KN::KY::x0::x1::MD::x0::O6::Lb::Mh::x0::x1::Kw::x0::RB::Md::LU::x0::x1::Kr::x0::PB::KO::L7::x0::x1::JX::x0::Ra::LQ::Lg::x0::x11::Rv P::x0::QJ::Qr::RD::x0::x1::Ma::x0::PL::L8::JU::x0::x1::Qz::MF::JD::x0::x1::JI::x0::RF::ME::MN::x0::x1::LL::x0::Pl::KA::KZ::x0::x1::JY::x0::Pg::MC::LM::x0::x1::JF::x0::Rh::J8::KS::x0::x1::Jv::x0::PP::JM::Mr::x0::x1::Ku::x0::QT::Kq::Lv::x0::x1::KJ::x0::PD::KI::JP::x0::x1::Lz::x0::Q7::Mp::Mm::LD::MR P::ML::JL::L6::QQ::Py::x0::x1::Kd::x0::Pp::MS::K9::x0::x1::Li::x0::P2::JJ::JG::x0::x1::JZ::x0::Rr::Ks::K6::[])) (.mk [] [] [] 0 [] [] false #[] [] 0 false false false 0 [2000,10,10] false 0 true [] [] 0 false)
theorem UR (w:World) (os:OsState):segRun treeTable PySem.Challenge.pw_pebbletoll_k62_desk_deeds_refused w 11 (some (.ref 6)) 1 1984 (Shared.mk (h0 w.params) (.mk []) (.mk 0 0 0 0) 342 os) (piecesOf st1 env cE (.mk 21 0 22 8) [topFrame (.mk 0 0 0 0)])=some (.next,(Shared.mk (h1 w.params) (.mk []) (.mk 0 0 0 0) 743 os),cE,(.mk 192 0 200 24)):=by kernel_rfl
def Pz (P:Params):Obj:=(.mk (.type "dict") none (.dict #[(en P "__name__" 165 (.str "law_pebbletoll_k62_desk_deeds_refused" 710)),(en P "__doc__" 166 .none),(en P "__package__" 167 .none),(en P "__loader__" 168 (.builtin "__main__.__loader__#opaque")),(en P "__spec__" 169 .none),(en P "__annotations__" 170 (.ref 6)),(en P "__builtins__" 171 (.ref 4)),(en P "__file__" 173 (.str "/claim/cut.py" 172)),(en P "__cached__" 174 .none),(en P "_wall" 193 (.ref 21)),(en P "TollError" 213 (.ref 31)),(en P "BadWeb" 229 (.ref 44)),(en P "NoPlace" 245 (.ref 56)),(en P "NoRoad" 261 (.ref 68)),(en P "BadLaying" 277 (.ref 80)),(en P "BadWish" 293 (.ref 92)),(en P "TooMany" 309 (.ref 104)),(en P "NoNumber" 325 (.ref 116)),(en P "NoWorst" 341 (.ref 128)),(en P "NoDeed" 357 (.ref 140)),(en P "BadStep" 382 (.ref 159)),(en P "MOST_PLACES" 386 (.int 24 385)),(en P "LEAST_TOLL" 388 (.int 2 387)),(en P "MOST_TOLL" 390 (.int 1000000 389)),(en P "Web" 418 (.ref 176)),(en P "toll" 431 (.ref 187)),(en P "neighbours" 439 (.ref 194)),(en P "check_place" 447 (.ref 201)),(en P "is_place" 455 (.ref 208)),(en P "check_counts" 463 (.ref 215)),(en P "check_ends" 471 (.ref 222)),(en P "check_tolls" 479 (.ref 229)),(en P "check_joined" 491 (.ref 236)),(en P "other_ends" 501 (.ref 243)),(en P "laying_of" 511 (.ref 250)),(en P "is_filled" 517 (.ref 255)),(en P "pile" 526 (.ref 262)),(en P "put" 537 (.ref 269)),(en P "walked" 548 (.ref 276)),(en P "layings" 560 (.ref 283)),(en P "can_be_done" 569 (.ref 290)),(en P "is_step" 577 (.ref 297)),(en P "taken" 585 (.ref 304)),(en P "behind" 595 (.ref 311)),(en P "wish_of" 605 (.ref 318)),(en P "Desk" 709 (.ref 396)),(en P "_law_cell" 719 (.ref 407)),(en P "_law_row" 733 (.ref 414)),(en P "_law_tolls" 742 (.ref 421)),(en P "_law_roads" 761 (.ref 428)),(en P "_law_price" 774 (.ref 435)),(en P "_law_whole" 781 (.ref 442)),(en P "_law_same" 790 (.ref 449)),(en P "_law_deed" 805 (.ref 456)),(en P "_law_behind" 819 (.ref 463)),(en P "_law_do" 828 (.ref 470)),(en P "_law_kind" 836 (.ref 477)),(en P "_law_odd" 853 (.ref 484)),(en P "_law_due" 865 (.ref 491)),(en P "_law_told" 876 (.ref 498)),(en P "law" 891 (.ref 505))] 61) #[])
def Tx:Obj:=(.mk .none none (.fields #[(.int 1 0),(.int 0 0),(.ref 20),(.int 5 0),(.int 0 0),(.ref 27),(.int 7 0),(.int 0 0),(.ref 40),(.int 9 0),(.int 0 0),(.ref 52),(.int 11 0),(.int 0 0),(.ref 64),(.int 13 0),(.int 0 0),(.ref 76),(.int 15 0),(.int 0 0),(.ref 88),(.int 17 0),(.int 0 0),(.ref 100),(.int 19 0),(.int 0 0),(.ref 112),(.int 21 0),(.int 0 0),(.ref 124),(.int 23 0),(.int 0 0),(.ref 136),(.int 25 0),(.int 0 0),(.ref 148),(.int 34 0),(.int 0 0),(.ref 167),(.int 45 0),(.int 0 0),(.ref 186),(.int 54 0),(.int 0 0),(.ref 193),(.int 57 0),(.int 0 0),(.ref 200),(.int 60 0),(.int 0 0),(.ref 207),(.int 62 0),(.int 0 0),(.ref 214),(.int 67 0),(.int 0 0),(.ref 221),(.int 72 0),(.int 0 0),(.ref 228),(.int 76 0),(.int 0 0),(.ref 235),(.int 87 0),(.int 0 0),(.ref 242),(.int 96 0),(.int 0 0),(.ref 249),(.int 100 0),(.int 0 0),(.ref 254),(.int 102 0),(.int 0 0),(.ref 261),(.int 104 0),(.int 0 0),(.ref 268),(.int 110 0),(.int 0 0),(.ref 275),(.int 112 0),(.int 0 0),(.ref 282),(.int 119 0),(.int 0 0),(.ref 289),(.int 121 0),(.int 0 0),(.ref 296),(.int 123 0),(.int 0 0),(.ref 303),(.int 125 0),(.int 0 0),(.ref 310),(.int 131 0),(.int 0 0),(.ref 317),(.int 136 0),(.int 0 0),(.ref 324),(.int 176 0),(.int 0 0),(.ref 406),(.int 180 0),(.int 0 0),(.ref 413),(.int 192 0),(.int 0 0),(.ref 420),(.int 201 0),(.int 0 0),(.ref 427),(.int 219 0),(.int 0 0),(.ref 434),(.int 226 0),(.int 0 0),(.ref 441),(.int 228 0),(.int 0 0),(.ref 448),(.int 235 0),(.int 0 0),(.ref 455),(.int 248 0),(.int 0 0),(.ref 462),(.int 262 0),(.int 0 0),(.ref 469),(.int 270 0),(.int 0 0),(.ref 476),(.int 278 0),(.int 0 0),(.ref 483),(.int 291 0),(.int 0 0),(.ref 490),(.int 301 0),(.int 0 0),(.ref 497),(.int 308 0),(.int 0 0),(.ref 504)]) #[])
def Ql:Obj:=(tO #[(.str "script" 746),(.str "mode" 747),(.str "shape" 748),(.str "tolls" 749),(.str "many" 750),(.str "roads" 751),(.str "k" 752),(.str "hang" 753),(.str "one" 754),(.str "other" 755),(.str "there" 756),(.str "back" 757),(.str "road" 758)])
def S9:Obj:=(fR "_law_roads" "_law_roads" (top 47))
def QP:Obj:=(cO "_law_roads" "_law_roads" 743 744 745 201 1 0 0 3 (.ref 422) true 181 (.ref 423) .none (.ref 424) (.ref 425) (.ref 426) 759 201 760)
def QL:Obj:=(fO "_law_roads" "_law_roads" (top 47) (.str "law_pebbletoll_k62_desk_deeds_refused" 710) (.ref 427))
def QO:Obj:=(tO #[(.str "roads" 765),(.str "a" 766),(.str "b" 767),(.str "one" 768),(.str "other" 769),(.str "there" 770),(.str "back" 771)])
def Tk:Obj:=(fR "_law_price" "_law_price" (top 48))
def OZ:Obj:=(cO "_law_price" "_law_price" 762 763 764 219 3 0 0 3 (.ref 429) true 181 (.ref 430) .none (.ref 431) (.ref 432) (.ref 433) 772 219 773)
def QI:Obj:=(fO "_law_price" "_law_price" (top 48) (.str "law_pebbletoll_k62_desk_deeds_refused" 710) (.ref 434))
def Ro:Obj:=(tO #[(.str "found" 778)])
def Uj:Obj:=(fR "_law_whole" "_law_whole" (top 49))
def QG:Obj:=(cO "_law_whole" "_law_whole" 775 776 777 226 1 0 0 3 (.ref 436) true 181 (.ref 437) .none (.ref 438) (.ref 439) (.ref 440) 779 226 780)
def Rc:Obj:=(fO "_law_whole" "_law_whole" (top 49) (.str "law_pebbletoll_k62_desk_deeds_refused" 710) (.ref 441))
def Rg:Obj:=(tO #[(.str "found" 785),(.str "due" 786),(.str "k" 787)])
def Ty:Obj:=(fR "_law_same" "_law_same" (top 50))
def QE:Obj:=(cO "_law_same" "_law_same" 782 783 784 228 2 0 0 3 (.ref 443) true 181 (.ref 444) .none (.ref 445) (.ref 446) (.ref 447) 788 228 789)
def QV:Obj:=(fO "_law_same" "_law_same" (top 50) (.str "law_pebbletoll_k62_desk_deeds_refused" 710) (.ref 448))
def Pr:Obj:=(tO #[(.str "cell" 794),(.str "many" 795),(.str "roads" 796),(.str "place" 797),(.str "amount" 798),(.str "one" 799),(.str "other" 800),(.str "there" 801),(.str "back" 802)])
def Ub:Obj:=(fR "_law_deed" "_law_deed" (top 51))
def PQ:Obj:=(cO "_law_deed" "_law_deed" 791 792 793 235 3 0 0 3 (.ref 450) true 181 (.ref 451) .none (.ref 452) (.ref 453) (.ref 454) 803 235 804)
def RK:Obj:=(fO "_law_deed" "_law_deed" (top 51) (.str "law_pebbletoll_k62_desk_deeds_refused" 710) (.ref 455))
def O9:Obj:=(tO #[(.str "roads" 809),(.str "held" 810),(.str "wish" 811),(.str "deed" 812),(.str "numbers" 813),(.str "now" 814),(.str "wants" 815),(.str "each" 816)])
def T5:Obj:=(fR "_law_behind" "_law_behind" (top 52))
def P7:Obj:=(cO "_law_behind" "_law_behind" 806 807 808 248 5 0 0 3 (.ref 457) true 181 (.ref 458) .none (.ref 459) (.ref 460) (.ref 461) 817 248 818)
def PK:Obj:=(fO "_law_behind" "_law_behind" (top 52) (.str "law_pebbletoll_k62_desk_deeds_refused" 710) (.ref 462))
def PX:Obj:=(tO #[(.str "desk" 823),(.str "deed" 824),(.str "numbers" 825)])
def T6:Obj:=(fR "_law_do" "_law_do" (top 53))
def Pf:Obj:=(cO "_law_do" "_law_do" 820 821 822 262 3 0 0 3 (.ref 464) true 181 (.ref 465) .none (.ref 466) (.ref 467) (.ref 468) 826 262 827)
def Pa:Obj:=(fO "_law_do" "_law_do" (top 53) (.str "law_pebbletoll_k62_desk_deeds_refused" 710) (.ref 469))
def Pt:Obj:=(tO #[(.str "e" 832),(.str "kinds" 833)])
def TC:Obj:=(fR "_law_kind" "_law_kind" (top 54))
def QU:Obj:=(cO "_law_kind" "_law_kind" 829 830 831 270 1 0 0 3 (.ref 471) true 181 (.ref 472) .none (.ref 473) (.ref 474) (.ref 475) 834 270 835)
def PH:Obj:=(fO "_law_kind" "_law_kind" (top 54) (.str "law_pebbletoll_k62_desk_deeds_refused" 710) (.ref 476))
def PY:Obj:=(tO #[(.str "cell" 840),(.str "many" 841),(.str "roads" 842),(.str "far" 843),(.str "place" 844),(.str "amount" 845),(.str "mode" 846),(.str "one" 847),(.str "other" 848),(.str "there" 849),(.str "back" 850)])
def TW:Obj:=(fR "_law_odd" "_law_odd" (top 55))
def Q1:Obj:=(cO "_law_odd" "_law_odd" 837 838 839 278 3 0 0 3 (.ref 478) true 181 (.ref 479) .none (.ref 480) (.ref 481) (.ref 482) 851 278 852)
def O7:Obj:=(fO "_law_odd" "_law_odd" (top 55) (.str "law_pebbletoll_k62_desk_deeds_refused" 710) (.ref 483))
def Qi:Obj:=(tO #[(.str "many" 857),(.str "roads" 858),(.str "state" 859),(.str "past" 860),(.str "deed" 861),(.str "numbers" 862)])
def TM:Obj:=(fR "_law_due" "_law_due" (top 56))
def Qt:Obj:=(cO "_law_due" "_law_due" 854 855 856 291 6 0 0 3 (.ref 485) true 181 (.ref 486) .none (.ref 487) (.ref 488) (.ref 489) 863 291 864)
def Pc:Obj:=(fO "_law_due" "_law_due" (top 56) (.str "law_pebbletoll_k62_desk_deeds_refused" 710) (.ref 490))
def Rk:Obj:=(tO #[(.str "desk" 869),(.str "deed" 870),(.str "numbers" 871),(.str "told" 872),(.str "e" 873)])
def Uc:Obj:=(fR "_law_told" "_law_told" (top 57))
def Qh:Obj:=(cO "_law_told" "_law_told" 866 867 868 301 3 0 0 3 (.ref 492) true 181 (.ref 493) .none (.ref 494) (.ref 495) (.ref 496) 874 301 875)
def Pi:Obj:=(fO "_law_told" "_law_told" (top 57) (.str "law_pebbletoll_k62_desk_deeds_refused" 710) (.ref 497))
def QR:Obj:=(tO #[(.str "script" 880),(.str "many" 881),(.str "roads" 882),(.str "desk" 883),(.str "states" 884),(.str "cell" 885),(.str "deed" 886),(.str "numbers" 887),(.str "due" 888)])
def TB:Obj:=(fR "law" "law" (top 58))
def Rn:Obj:=(cO "law" "law" 877 878 879 308 1 0 0 3 (.ref 499) true 181 (.ref 500) .none (.ref 501) (.ref 502) (.ref 503) 889 308 890)
def QZ:Obj:=(fO "law" "law" (top 58) (.str "law_pebbletoll_k62_desk_deeds_refused" 710) (.ref 504))
noncomputable def h2 (P:Params):Heap:=.mk (.mk (boot_o_0 P::boot_o_1 P::boot_o_2 P::Pz P::boot_o_4 P::boot_o_5 P::boot_o_6 P::boot_o_7 P::boot_o_8 P::boot_o_9 P::boot_o_10 P::x0::Tx::x2::x3::x0::x1::x6::x0::x7::x8::x9::x10::x11::x12 P::x0::x1::x13::x14::x0::x15 P::x79::x17::x18::x19::x20::x11::x21 P::x0::x1::x22::x23::x0::x24 P::x25::x26::x27::x20::x11::x28 P::x0::x1::x29::x30::x0::x31 P::x32::x33::x34::x20::x11::x35 P::x0::x1::x36::x37::x0::x38 P::x39::x40::x41::x20::x11::x42 P::x0::x1::x43::x44::x0::x45 P::x46::x47::x48::x20::x11::x49 P::x0::x1::x50::x51::x0::x52 P::x53::x54::x55::x20::x11::x56 P::x0::x1::x57::x58::x0::x59 P::x60::x61::x62::x20::x11::x63 P::x0::x1::x64::x65::x0::x66 P::x67::x68::x69::x20::x11::x70 P::x0::x1::x71::x72::x0::x73 P::x74::x75::x76::x20::x11::x80 P::x0::x1::x81::x82::x0::x83 P::x84::x85::x86::x20::x11::x87 P::x0::x88::x89::x90::x0::x1::x91::x0::x92::x93::x94::x95::x96 P::x97::x98::x99::x0::x11::PV P::x0::PN::PZ::Qm::x0::x1::Q9::LB::Lx::MT::Kn P::Lo::K4::Kk::Qx::Pd::x0::x1::Mw::x0::RI::Kl::KD::x0::x1::Ky::x0::Qk::L9::Ms::x0::x1::J6::x0::Px::La::KP::x0::x1::MG::x0::Qf::JK::Mi::x0::x1::Mv::x0::Re::Lm::KQ::x0::x1::KL::x0::Rj::MV::JH::x0::x1::Jx::x0::RA::KG::Mu::x0::x1::Jw::x0::Rq::Lq::KH::x0::x1::Lk::x0::Qo::Kt::MW::x0::x1::MQ::x0::Ps::LW::MA::x0::x1::Rm::Mf::Lh::x0::x1::Jo::x0::Q6::K7::LG::x0::x1::Mg::x0::Rt::J7::MK::x0::x1::LH::x0::Pw::LS::Mt::x0::x1::LV::x0::O8::KU::Jy::x0::x1::LK::x0::QA::KN::KY::x0::x1::MD::x0::O6::Lb::Mh::x0::x1::Kw::x0::RB::Md::LU::x0::x1::Kr::x0::PB::KO::L7::x0::x1::JX::x0::Ra::LQ::Lg::x0::x11::Rv P::x0::QJ::Qr::RD::x0::x1::Ma::x0::PL::L8::JU::x0::x1::Qz::MF::JD::x0::x1::JI::x0::RF::ME::MN::x0::x1::LL::x0::Pl::KA::KZ::x0::x1::JY::x0::Pg::MC::LM::x0::x1::JF::x0::Rh::J8::KS::x0::x1::Jv::x0::PP::JM::Mr::x0::x1::Ku::x0::QT::Kq::Lv::x0::x1::KJ::x0::PD::KI::JP::x0::x1::Lz::x0::Q7::Mp::Mm::LD::MR P::ML::JL::L6::QQ::Py::x0::x1::Kd::x0::Pp::MS::K9::x0::x1::Li::x0::P2::JJ::JG::x0::x1::JZ::x0::Rr::Ks::K6::x0::x1::Ql::x0::S9::QP::QL::x0::x1::QO::x0::Tk::OZ::QI::x0::x1::Ro::x0::Uj::QG::Rc::x0::x1::Rg::x0::Ty::QE::QV::x0::x1::Pr::x0::Ub::PQ::RK::x0::x1::O9::x0::T5::P7::PK::x0::x1::PX::x0::T6::Pf::Pa::x0::x1::Pt::x0::TC::QU::PH::x0::x1::PY::x0::TW::Q1::O7::x0::x1::Qi::x0::TM::Qt::Pc::x0::x1::Rk::x0::Uc::Qh::Pi::x0::x1::QR::x0::TB::Rn::QZ::[])) (.mk [] [] [] 0 [] [] false #[] [] 0 false false false 0 [2000,10,10] false 0 true [] [] 0 false)
theorem UE (w:World) (os:OsState):segRun treeTable PySem.Challenge.pw_pebbletoll_k62_desk_deeds_refused w 11 (some (.ref 6)) 1 414 (Shared.mk (h1 w.params) (.mk []) (.mk 0 0 0 0) 743 os) (piecesOf st2 env cE (.mk 192 0 200 24) [topFrame (.mk 0 0 0 0)])=some (.next,(Shared.mk (h2 w.params) (.mk []) (.mk 0 0 0 0) 892 os),cE,(.mk 308 0 327 15)):=by kernel_rfl
noncomputable def hf (P:Params):Heap:=.mk (.mk (boot_o_0 P::boot_o_1 P::boot_o_2 P::Pz P::boot_o_4 P::boot_o_5 P::boot_o_6 P::boot_o_7 P::boot_o_8 P::boot_o_9 P::boot_o_10 P::x0::Tx::x2::x3::x0::x1::x6::x0::x7::x8::x9::x10::x11::x12 P::x0::x1::x13::x14::x0::x15 P::x79::x17::x18::x19::x20::x11::x21 P::x0::x1::x22::x23::x0::x24 P::x25::x26::x27::x20::x11::x28 P::x0::x1::x29::x30::x0::x31 P::x32::x33::x34::x20::x11::x35 P::x0::x1::x36::x37::x0::x38 P::x39::x40::x41::x20::x11::x42 P::x0::x1::x43::x44::x0::x45 P::x46::x47::x48::x20::x11::x49 P::x0::x1::x50::x51::x0::x52 P::x53::x54::x55::x20::x11::x56 P::x0::x1::x57::x58::x0::x59 P::x60::x61::x62::x20::x11::x63 P::x0::x1::x64::x65::x0::x66 P::x67::x68::x69::x20::x11::x70 P::x0::x1::x71::x72::x0::x73 P::x74::x75::x76::x20::x11::x80 P::x0::x1::x81::x82::x0::x83 P::x84::x85::x86::x20::x11::x87 P::x0::x88::x89::x90::x0::x1::x91::x0::x92::x93::x94::x95::x96 P::x97::x98::x99::x0::x11::PV P::x0::PN::PZ::Qm::x0::x1::Q9::LB::Lx::MT::Kn P::Lo::K4::Kk::Qx::Pd::x0::x1::Mw::x0::RI::Kl::KD::x0::x1::Ky::x0::Qk::L9::Ms::x0::x1::J6::x0::Px::La::KP::x0::x1::MG::x0::Qf::JK::Mi::x0::x1::Mv::x0::Re::Lm::KQ::x0::x1::KL::x0::Rj::MV::JH::x0::x1::Jx::x0::RA::KG::Mu::x0::x1::Jw::x0::Rq::Lq::KH::x0::x1::Lk::x0::Qo::Kt::MW::x0::x1::MQ::x0::Ps::LW::MA::x0::x1::Rm::Mf::Lh::x0::x1::Jo::x0::Q6::K7::LG::x0::x1::Mg::x0::Rt::J7::MK::x0::x1::LH::x0::Pw::LS::Mt::x0::x1::LV::x0::O8::KU::Jy::x0::x1::LK::x0::QA::KN::KY::x0::x1::MD::x0::O6::Lb::Mh::x0::x1::Kw::x0::RB::Md::LU::x0::x1::Kr::x0::PB::KO::L7::x0::x1::JX::x0::Ra::LQ::Lg::x0::x11::Rv P::x0::QJ::Qr::RD::x0::x1::Ma::x0::PL::L8::JU::x0::x1::Qz::MF::JD::x0::x1::JI::x0::RF::ME::MN::x0::x1::LL::x0::Pl::KA::KZ::x0::x1::JY::x0::Pg::MC::LM::x0::x1::JF::x0::Rh::J8::KS::x0::x1::Jv::x0::PP::JM::Mr::x0::x1::Ku::x0::QT::Kq::Lv::x0::x1::KJ::x0::PD::KI::JP::x0::x1::Lz::x0::Q7::Mp::Mm::LD::MR P::ML::JL::L6::QQ::Py::x0::x1::Kd::x0::Pp::MS::K9::x0::x1::Li::x0::P2::JJ::JG::x0::x1::JZ::x0::Rr::Ks::K6::x0::x1::Ql::x0::S9::QP::QL::x0::x1::QO::x0::Tk::OZ::QI::x0::x1::Ro::x0::Uj::QG::Rc::x0::x1::Rg::x0::Ty::QE::QV::x0::x1::Pr::x0::Ub::PQ::RK::x0::x1::O9::x0::T5::P7::PK::x0::x1::PX::x0::T6::Pf::Pa::x0::x1::Pt::x0::TC::QU::PH::x0::x1::PY::x0::TW::Q1::O7::x0::x1::Qi::x0::TM::Qt::Pc::x0::x1::Rk::x0::Uc::Qh::Pi::x0::x1::QR::x0::TB::Rn::QZ::[])) (.mk [] [] [] 0 [] [] false #[] [] 0 false false false 0 [2000,10,10] false 0 true [] [] 0 false)
theorem UB (w:World) (os:OsState):topRun treeTable PySem.Challenge.pw_pebbletoll_k62_desk_deeds_refused w 11 (some (.ref 6)) 2 (Shared.mk (h2 w.params) (.mk []) (.mk 0 0 0 0) 892 os) (restOf [] env cE (.mk 308 0 327 15) [topFrame (.mk 0 0 0 0)])=some (Shared.mk (hf w.params) (.mk []) (.mk 0 0 0 0) 892 os):=by kernel_rfl
theorem run (w:World) (os:OsState):topRun treeTable PySem.Challenge.pw_pebbletoll_k62_desk_deeds_refused w 11 (some (.ref 6)) (12+(1+(1929+(1984+(414+(2)))))) (Shared.mk (boot_heap w.params) (.mk []) boot_drawn boot_toks os) (topStub PySem.Challenge.pw_pebbletoll_k62_desk_deeds_refused)=some (Shared.mk (hf w.params) (.mk []) (.mk 0 0 0 0) 892 os):=go_top (UN w os) (piece_block (UK w os) (piece_app (US w os) (piece_app (UR w os) (piece_app (UE w os) (UB w os)))))
theorem opn:∀ w:World,(fencedOpening treeTable PySem.Challenge.pw_pebbletoll_k62_desk_deeds_refused w 8774).map (fun s=>(s.heap,s.gens,s.drawn,s.toks))=some (boot_heap w.params,Array.mk [],boot_drawn,boot_toks):=boot_open (by kernel_rfl) (by decide) fun s=>by kernel_rfl
theorem siz (w:World):((boot_heap w.params).isNs mainGlobals && (Array.mk ([]:List GenState)).size == 0,(boot_heap w.params).objs.size,(boot_heap w.params).nsMap mainGlobals "__annotations__")=(true,11,(some (.ref 6))):=by kernel_rfl
noncomputable def KK:Params->Frag:=fun P =>
 (nat_lit 2,boot_o_2 P) ::
 (nat_lit 3,Pz P) ::
 (nat_lit 15,x0) ::
 (nat_lit 17,x6) ::
 (nat_lit 18,x0) ::
 (nat_lit 20,x8) ::
 (nat_lit 21,x9) ::
 (nat_lit 22,x10) ::
 (nat_lit 29,x0) ::
 (nat_lit 30,x15 P) ::
 (nat_lit 31,x79) ::
 (nat_lit 32,x17) ::
 (nat_lit 35,x20) ::
 (nat_lit 42,x0) ::
 (nat_lit 43,x24 P) ::
 (nat_lit 44,x25) ::
 (nat_lit 47,x20) ::
 (nat_lit 54,x0) ::
 (nat_lit 55,x31 P) ::
 (nat_lit 56,x32) ::
 (nat_lit 59,x20) ::
 (nat_lit 66,x0) ::
 (nat_lit 67,x38 P) ::
 (nat_lit 68,x39) ::
 (nat_lit 71,x20) ::
 (nat_lit 78,x0) ::
 (nat_lit 79,x45 P) ::
 (nat_lit 80,x46) ::
 (nat_lit 83,x20) ::
 (nat_lit 90,x0) ::
 (nat_lit 91,x52 P) ::
 (nat_lit 92,x53) ::
 (nat_lit 95,x20) ::
 (nat_lit 102,x0) ::
 (nat_lit 103,x59 P) ::
 (nat_lit 104,x60) ::
 (nat_lit 107,x20) ::
 (nat_lit 114,x0) ::
 (nat_lit 115,x66 P) ::
 (nat_lit 116,x67) ::
 (nat_lit 119,x20) ::
 (nat_lit 126,x0) ::
 (nat_lit 127,x73 P) ::
 (nat_lit 128,x74) ::
 (nat_lit 131,x20) ::
 (nat_lit 138,x0) ::
 (nat_lit 139,x83 P) ::
 (nat_lit 140,x84) ::
 (nat_lit 143,x20) ::
 (nat_lit 150,x0) ::
 (nat_lit 152,x91) ::
 (nat_lit 153,x0) ::
 (nat_lit 155,x93) ::
 (nat_lit 156,x94) ::
 (nat_lit 157,x95) ::
 (nat_lit 158,x96 P) ::
 (nat_lit 159,x97) ::
 (nat_lit 169,x0) ::
 (nat_lit 172,LB) ::
 (nat_lit 173,Lx) ::
 (nat_lit 174,MT) ::
 (nat_lit 175,Kn P) ::
 (nat_lit 176,Lo) ::
 (nat_lit 177,K4) ::
 (nat_lit 178,Kk) ::
 (nat_lit 181,x0) ::
 (nat_lit 183,Mw) ::
 (nat_lit 184,x0) ::
 (nat_lit 186,Kl) ::
 (nat_lit 187,KD) ::
 (nat_lit 188,x0) ::
 (nat_lit 190,Ky) ::
 (nat_lit 191,x0) ::
 (nat_lit 193,L9) ::
 (nat_lit 194,Ms) ::
 (nat_lit 195,x0) ::
 (nat_lit 197,J6) ::
 (nat_lit 198,x0) ::
 (nat_lit 200,La) ::
 (nat_lit 201,KP) ::
 (nat_lit 202,x0) ::
 (nat_lit 204,MG) ::
 (nat_lit 205,x0) ::
 (nat_lit 207,JK) ::
 (nat_lit 208,Mi) ::
 (nat_lit 209,x0) ::
 (nat_lit 211,Mv) ::
 (nat_lit 212,x0) ::
 (nat_lit 214,Lm) ::
 (nat_lit 215,KQ) ::
 (nat_lit 216,x0) ::
 (nat_lit 218,KL) ::
 (nat_lit 219,x0) ::
 (nat_lit 221,MV) ::
 (nat_lit 222,JH) ::
 (nat_lit 223,x0) ::
 (nat_lit 225,Jx) ::
 (nat_lit 226,x0) ::
 (nat_lit 228,KG) ::
 (nat_lit 229,Mu) ::
 (nat_lit 230,x0) ::
 (nat_lit 232,Jw) ::
 (nat_lit 233,x0) ::
 (nat_lit 235,Lq) ::
 (nat_lit 236,KH) ::
 (nat_lit 237,x0) ::
 (nat_lit 239,Lk) ::
 (nat_lit 240,x0) ::
 (nat_lit 242,Kt) ::
 (nat_lit 243,MW) ::
 (nat_lit 244,x0) ::
 (nat_lit 246,MQ) ::
 (nat_lit 247,x0) ::
 (nat_lit 249,LW) ::
 (nat_lit 250,MA) ::
 (nat_lit 251,x0) ::
 (nat_lit 254,Mf) ::
 (nat_lit 255,Lh) ::
 (nat_lit 256,x0) ::
 (nat_lit 258,Jo) ::
 (nat_lit 259,x0) ::
 (nat_lit 261,K7) ::
 (nat_lit 262,LG) ::
 (nat_lit 263,x0) ::
 (nat_lit 265,Mg) ::
 (nat_lit 266,x0) ::
 (nat_lit 268,J7) ::
 (nat_lit 269,MK) ::
 (nat_lit 270,x0) ::
 (nat_lit 272,LH) ::
 (nat_lit 273,x0) ::
 (nat_lit 275,LS) ::
 (nat_lit 276,Mt) ::
 (nat_lit 277,x0) ::
 (nat_lit 279,LV) ::
 (nat_lit 280,x0) ::
 (nat_lit 282,KU) ::
 (nat_lit 283,Jy) ::
 (nat_lit 284,x0) ::
 (nat_lit 286,LK) ::
 (nat_lit 287,x0) ::
 (nat_lit 289,KN) ::
 (nat_lit 290,KY) ::
 (nat_lit 291,x0) ::
 (nat_lit 293,MD) ::
 (nat_lit 294,x0) ::
 (nat_lit 296,Lb) ::
 (nat_lit 297,Mh) ::
 (nat_lit 298,x0) ::
 (nat_lit 300,Kw) ::
 (nat_lit 301,x0) ::
 (nat_lit 303,Md) ::
 (nat_lit 304,LU) ::
 (nat_lit 305,x0) ::
 (nat_lit 307,Kr) ::
 (nat_lit 308,x0) ::
 (nat_lit 310,KO) ::
 (nat_lit 311,L7) ::
 (nat_lit 312,x0) ::
 (nat_lit 314,JX) ::
 (nat_lit 315,x0) ::
 (nat_lit 317,LQ) ::
 (nat_lit 318,Lg) ::
 (nat_lit 326,x0) ::
 (nat_lit 328,Ma) ::
 (nat_lit 329,x0) ::
 (nat_lit 331,L8) ::
 (nat_lit 332,JU) ::
 (nat_lit 333,x0) ::
 (nat_lit 336,MF) ::
 (nat_lit 337,JD) ::
 (nat_lit 338,x0) ::
 (nat_lit 340,JI) ::
 (nat_lit 341,x0) ::
 (nat_lit 343,ME) ::
 (nat_lit 344,MN) ::
 (nat_lit 345,x0) ::
 (nat_lit 347,LL) ::
 (nat_lit 348,x0) ::
 (nat_lit 350,KA) ::
 (nat_lit 351,KZ) ::
 (nat_lit 352,x0) ::
 (nat_lit 354,JY) ::
 (nat_lit 355,x0) ::
 (nat_lit 357,MC) ::
 (nat_lit 358,LM) ::
 (nat_lit 359,x0) ::
 (nat_lit 361,JF) ::
 (nat_lit 362,x0) ::
 (nat_lit 364,J8) ::
 (nat_lit 365,KS) ::
 (nat_lit 366,x0) ::
 (nat_lit 368,Jv) ::
 (nat_lit 369,x0) ::
 (nat_lit 371,JM) ::
 (nat_lit 372,Mr) ::
 (nat_lit 373,x0) ::
 (nat_lit 375,Ku) ::
 (nat_lit 376,x0) ::
 (nat_lit 378,Kq) ::
 (nat_lit 379,Lv) ::
 (nat_lit 380,x0) ::
 (nat_lit 382,KJ) ::
 (nat_lit 383,x0) ::
 (nat_lit 385,KI) ::
 (nat_lit 386,JP) ::
 (nat_lit 387,x0) ::
 (nat_lit 389,Lz) ::
 (nat_lit 390,x0) ::
 (nat_lit 392,Mp) ::
 (nat_lit 393,Mm) ::
 (nat_lit 394,LD) ::
 (nat_lit 395,MR P) ::
 (nat_lit 396,ML) ::
 (nat_lit 397,JL) ::
 (nat_lit 398,L6) ::
 (nat_lit 401,x0) ::
 (nat_lit 403,Kd) ::
 (nat_lit 404,x0) ::
 (nat_lit 406,MS) ::
 (nat_lit 407,K9) ::
 (nat_lit 408,x0) ::
 (nat_lit 410,Li) ::
 (nat_lit 411,x0) ::
 (nat_lit 413,JJ) ::
 (nat_lit 414,JG) ::
 (nat_lit 415,x0) ::
 (nat_lit 417,JZ) ::
 (nat_lit 418,x0) ::
 (nat_lit 420,Ks) ::
 (nat_lit 421,K6) ::
 (nat_lit 422,x0) ::
 (nat_lit 424,Ql) ::
 (nat_lit 425,x0) ::
 (nat_lit 427,QP) ::
 (nat_lit 428,QL) ::
 (nat_lit 429,x0) ::
 (nat_lit 431,QO) ::
 (nat_lit 432,x0) ::
 (nat_lit 434,OZ) ::
 (nat_lit 435,QI) ::
 (nat_lit 436,x0) ::
 (nat_lit 438,Ro) ::
 (nat_lit 439,x0) ::
 (nat_lit 441,QG) ::
 (nat_lit 442,Rc) ::
 (nat_lit 443,x0) ::
 (nat_lit 445,Rg) ::
 (nat_lit 446,x0) ::
 (nat_lit 448,QE) ::
 (nat_lit 449,QV) ::
 (nat_lit 450,x0) ::
 (nat_lit 452,Pr) ::
 (nat_lit 453,x0) ::
 (nat_lit 455,PQ) ::
 (nat_lit 456,RK) ::
 (nat_lit 457,x0) ::
 (nat_lit 459,O9) ::
 (nat_lit 460,x0) ::
 (nat_lit 462,P7) ::
 (nat_lit 463,PK) ::
 (nat_lit 464,x0) ::
 (nat_lit 466,PX) ::
 (nat_lit 467,x0) ::
 (nat_lit 469,Pf) ::
 (nat_lit 470,Pa) ::
 (nat_lit 471,x0) ::
 (nat_lit 473,Pt) ::
 (nat_lit 474,x0) ::
 (nat_lit 476,QU) ::
 (nat_lit 477,PH) ::
 (nat_lit 478,x0) ::
 (nat_lit 480,PY) ::
 (nat_lit 481,x0) ::
 (nat_lit 483,Q1) ::
 (nat_lit 484,O7) ::
 (nat_lit 485,x0) ::
 (nat_lit 487,Qi) ::
 (nat_lit 488,x0) ::
 (nat_lit 490,Qt) ::
 (nat_lit 491,Pc) ::
 (nat_lit 492,x0) ::
 (nat_lit 494,Rk) ::
 (nat_lit 495,x0) ::
 (nat_lit 497,Qh) ::
 (nat_lit 498,Pi) ::
 (nat_lit 499,x0) ::
 (nat_lit 501,QR) ::
 (nat_lit 502,x0) ::
 (nat_lit 504,Rn) ::
 (nat_lit 505,QZ)::[]
abbrev qq:Program:=PySem.W.view PySem.Challenge.pw_pebbletoll_k62_desk_deeds_refused [0,2,3,4,5,6,7,8,9,10,11,12,14,15,16,17,18,19,20,21,22,23,24,25,26,28,29,30,31,33,34,35,36,37,38,40,42,44,45,46,47,48,49,50,51,52,53,54,55,56,57,58]
abbrev asK:List Addr:=[2,3,15,17,18,20,21,22,29,30,31,32,35,42,43,44,47,54,55,56,59,66,67,68,71,78,79,80,83,90,91,92,95,102,103,104,107,114,115,116,119,126,127,128,131,138,139,140,143,150,152,153,155,156,157,158,159,169,172,173,174,175,176,177,178,181,183,184,186,187,188,190,191,193,194,195,197,198,200,201,202,204,205,207,208,209,211,212,214,215,216,218,219,221,222,223,225,226,228,229,230,232,233,235,236,237,239,240,242,243,244,246,247,249,250,251,254,255,256,258,259,261,262,263,265,266,268,269,270,272,273,275,276,277,279,280,282,283,284,286,287,289,290,291,293,294,296,297,298,300,301,303,304,305,307,308,310,311,312,314,315,317,318,326,328,329,331,332,333,336,337,338,340,341,343,344,345,347,348,350,351,352,354,355,357,358,359,361,362,364,365,366,368,369,371,372,373,375,376,378,379,380,382,383,385,386,387,389,390,392,393,394,395,396,397,398,401,403,404,406,407,408,410,411,413,414,415,417,418,420,421,422,424,425,427,428,429,431,432,434,435,436,438,439,441,442,443,445,446,448,449,450,452,453,455,456,457,459,460,462,463,464,466,467,469,470,471,473,474,476,477,478,480,481,483,484,485,487,488,490,491,492,494,495,497,498,499,501,502,504,505]
theorem asK_eq:∀ P,asK=(KK P).map (·.1):=fun _=>by kernel_rfl
theorem Ux (w:World):(fun os=>((staticsOk (importedModules PySem.Challenge.pw_pebbletoll_k62_desk_deeds_refused.main.body) (boot_heap w.params) (hf w.params) && namesBound PySem.Challenge.pw_pebbletoll_k62_desk_deeds_refused (hf w.params) && gensDone (Shared.mk (Hd.hf w.params) (.mk []) (.mk 0 0 0 0) 892 os) && laidKept (boot_heap w.params) (hf w.params)),openSeen qq [] (importedModules PySem.Challenge.pw_pebbletoll_k62_desk_deeds_refused.main.body) (fun s=>PySem.W.xlAt Hd.qq [] s && PySem.W.recOk (PySem.W.RowW.records (PySem.W.OpenRow.toRowW (PySem.Challenge.rw_pebbletoll_k62_desk_deeds_refused).row)) s) true (Shared.mk (Hd.hf w.params) (.mk []) (.mk 0 0 0 0) 892 os),Hook.obs (PySem.W.kHook Hd.KK Hd.asK Hd.asK_eq) (Shared.mk (Hd.hf w.params) (.mk []) (.mk 0 0 0 0) 892 os)))=fun _=>(true,openGood qq [],Hook.val (PySem.W.kHook Hd.KK Hd.asK Hd.asK_eq) w):=by kernel_rfl
theorem left:PySem.W.LeftO (PySem.Challenge.rw_pebbletoll_k62_desk_deeds_refused).row.prog qq [] (fun s=>PySem.W.xlAt Hd.qq [] s && PySem.W.recOk (PySem.W.RowW.records (PySem.W.OpenRow.toRowW (PySem.Challenge.rw_pebbletoll_k62_desk_deeds_refused).row)) s) (PySem.W.Hook.obs (PySem.W.kHook Hd.KK Hd.asK Hd.asK_eq)) (PySem.W.Hook.val (PySem.W.kHook Hd.KK Hd.asK Hd.asK_eq)) 8774:=LeftO.of_pieces opn siz run (by decide) Ux
end Hd
set_option Elab.async false
set_option linter.all false
set_option maxRecDepth 100000
namespace L2
open PySem PySem.Spec PyProof.Rows
abbrev Key:=Sum Int Str
def yY:Key->Value->Bool
 | .inl k,v=>Value.isInt k v
 | .inr x,v=>Value.isStrOf x v
def UI (w:World):Key->Int
 | .inl k=>hashInt k
 | .inr x=>hashStr w x
theorem dE:∀ {k:Key} {v:Value},yY k v=true->(∃ i t,k=Sum.inl i/\v=Value.int i t)\/(∃ x t,k=Sum.inr x/\v=Value.str x t)
 | .inl i,v,h=>by
   obtain ⟨t,e⟩:=Value.isInt_shape (k:=i) (v:=v) h;exact .inl ⟨i,t,rfl,e⟩
 | .inr x,v,h=>by
   obtain ⟨t,e⟩:=Value.isStrOf_shape (x:=x) (v:=v) h;exact .inr ⟨x,t,rfl,e⟩
theorem Np (i:Int) (t:Tok):yY (.inl i) (.int i t)=true:=by simp [yY,Value.isInt]
theorem OB (x:Str) (t:Tok):yY (.inr x) (.str x t)=true:=by simp [yY,Value.isStrOf]
theorem TF (a b:Int):decide ((Sum.inl a:Key)=Sum.inl b)=(a == b):=by
 by_cases e:a=b
 . subst e;simp
 . have h:¬ (Sum.inl a:Key)=Sum.inl b:=fun q=>e (Sum.inl.inj q);rw [decide_eq_false h];exact (beq_eq_false_iff_ne.mpr e).symm
theorem Tm (a b:Str):decide ((Sum.inr a:Key)=Sum.inr b)=decide (a=b):=by
 by_cases e:a=b
 . subst e;simp
 . have h:¬ (Sum.inr a:Key)=Sum.inr b:=fun q=>e (Sum.inr.inj q);rw [decide_eq_false h,decide_eq_false e]
theorem Ug (a:Int) (b:Str):decide ((Sum.inl a:Key)=Sum.inr b)=false:=decide_eq_false (fun q=>nomatch q)
theorem Uh (a:Str) (b:Int):decide ((Sum.inr a:Key)=Sum.inl b)=false:=decide_eq_false (fun q=>nomatch q)
def dq (prog:Program) (w:World):PySem.KeyKind prog w Key where
 is:=yY
 hash:=UI w
 inj:=fun v a b ha hb=>by
   rcases dE ha with ⟨i,t,rfl,rfl⟩|⟨x,t,rfl,rfl⟩
   . rcases dE hb with ⟨j,u,rfl,e⟩|⟨y,u,rfl,e⟩
     . injection e with e1 _;rw [e1]
     . exact nomatch e
   . rcases dE hb with ⟨j,u,rfl,e⟩|⟨y,u,rfl,e⟩
     . exact nomatch e
     . injection e with e1 _;rw [e1]
 byValue:=fun k v h=>by
   rcases dE h with ⟨i,t,rfl,rfl⟩|⟨x,t,rfl,rfl⟩ <;> rfl
 pyHash:=fun hv h=>by
   rcases dE hv with ⟨i,t,rfl,rfl⟩|⟨x,t,rfl,rfl⟩
   . exact wpAny_pyHash_int h
   . exact wpAny_pyHash_str h
 eqBool:=fun hu hv h=>by
   rcases dE hu with ⟨i,t,rfl,rfl⟩|⟨x,t,rfl,rfl⟩
   . rcases dE hv with ⟨j,u,rfl,rfl⟩|⟨y,u,rfl,rfl⟩
     . rw [TF] at h;exact wpAny_eqBool_int h
     . rw [Ug] at h;exact SeqAt.EqAt.int_str i t y u _ _ _ _ h
   . rcases dE hv with ⟨j,u,rfl,rfl⟩|⟨y,u,rfl,rfl⟩
     . rw [Uh] at h;exact SeqAt.EqAt.str_int x t j u _ _ _ _ h
     . rw [Tm] at h;exact wpAny_eqBool_str h
 «strs»:=fun k x t v h=>by
   rcases dE h with ⟨i,u,rfl,e⟩|⟨y,u,rfl,e⟩
   . exact nomatch e
   . injection e with e1 _
     subst e1;cases v <;> rfl
theorem Ix (prog:Program) (w:World) (i:Int) (t:Tok):(dq prog w).is (.inl i) (.int i t)=true:=Np i t
theorem Ir (prog:Program) (w:World) (x:Str) (t:Tok):(dq prog w).is (.inr x) (.str x t)=true:=OB x t
end L2
namespace L2
open PySem PySem.Spec PyProof.Rows
inductive V where
 | non|bl (b:Bool)|int (i:Int)|str (x:Str)|byt (b:Array UInt8)|flt (b:UInt64)|ref (a:Addr)|ty (n:String)
 deriving DecidableEq
def RelV:V->Value->Prop
 | .non,u=>u=Value.none
 | .bl b,u=>u=Value.bool b
 | .int i,u=>∃ t,u=Value.int i t
 | .str x,u=>∃ t,u=Value.str x t
 | .byt b,u=>∃ t,u=Value.bytes b t
 | .flt b,u=>∃ t,u=Value.float b t
 | .ref a,u=>u=Value.ref a
 | .ty n,u=>u=Value.type n
abbrev Vals:List V->List Value->Prop:=Paired RelV
theorem Vals.length {xs:List V} {us:List Value} (r:Vals xs us):xs.length=us.length:=Paired.length r
theorem Vals.get:∀ {xs:List V} {us:List Value} {i:Nat} {x:V},Vals xs us->xs[i]?=some x->∃ u,us[i]?=some u/\RelV x u
 | _,_,_,_,.nil,e=>by simp at e
 | _,_,0,_,.cons r _,e=>by simp at e;subst e;exact ⟨_,rfl,r⟩
 | _,_,i+1,x,.cons _ t,e=>by
   obtain ⟨u,h1,h2⟩:=Vals.get (i:=i) (x:=x) t (by simpa using e);exact ⟨u,by simpa using h1,h2⟩
theorem Vals.set {x:V} {u:Value} (r:RelV x u):∀ {xs:List V} {us:List Value} (i:Nat),Vals xs us->Vals (xs.set i x) (us.set i u)
 | _,_,_,.nil=>.nil
 | _,_,0,.cons _ t=>.cons r t
 | _,_,i+1,.cons q t=>.cons q (Vals.set r i t)
theorem Vals.append:∀ {xs ys:List V} {us ws:List Value},Vals xs us->Vals ys ws->Vals (xs++ys) (us++ws)
 | _,_,_,_,.nil,s=>s
 | _,_,_,_,.cons r t,s=>.cons r (Vals.append t s)
theorem Vals.take:∀ {xs:List V} {us:List Value} (n:Nat),Vals xs us->Vals (xs.take n) (us.take n)
 | _,_,0,_=>.nil
 | _,_,_+1,.nil=>.nil
 | _,_,n+1,.cons r t=>.cons r (Vals.take n t)
theorem Vals.drop:∀ {xs:List V} {us:List Value} (n:Nat),Vals xs us->Vals (xs.drop n) (us.drop n)
 | _,_,0,r=>r
 | _,_,_+1,.nil=>.nil
 | _,_,n+1,.cons _ t=>Vals.drop n t
def RelO:Option V->Option Value->Prop
 | some v,some u=>RelV v u
 | none,none=>True
 | _,_=>False
def KV {κ:Type}:List (κ × V)->List (κ × Value)->Prop:=Paired fun (p:κ × V) (q:κ × Value)=>p.1=q.1/\RelV p.2 q.2
def kV:Key->V
 | .inl i=>.int i
 | .inr x=>.str x
inductive HO where
 /-- a list -/
 | lst (xs:List V)
 /-- a tuple (never changes) -/
 | tup (xs:List V)
 /-- a dict whose keys are ints and texts;one whose keys are tuples of ints and texts (the empty one is both) -/
 | dK (kvs:List (Key × V))|dT (kvs:List (List Key × V))
 /-- a set of ints: its members,its size -/
 | set (S:Int->Bool) (n:Nat)
 /-- an instance of the class at C,its dict at dx,its attributes -/
 | ins (C dx:Addr) (fs:List (Str × V))
 /-- the dict of the instance at x -/
 | own (x:Addr)
 /-- the dict of an exception -/
 | xd (fs:List (Str × V))
 /-- a bound method,f of x -/
 | met (f x:Addr)
 /-- a range object lo,lo+1,.. below hi -/
 | rng (lo hi:Int)
 /-- a thing that is known to the object (the script;a dict while a loop walks it): read,never written while it is so -/
 | frz (o:Obj) (u:HO)
 /-- a code object's table -/
 | tbl (ps:Array Value)
 /-- any other thing,by what is true of its one object (a def of one's own: SetO a S n:=HO.ext fun h=>..) -/
 | ext (φ:Heap->Prop)
abbrev Hp:=Addr->Option HO
def upd (H:Hp) (a:Addr) (o:HO):Hp:=fun b=>if b=a then some o else H b
theorem ah {H:Hp} {a:Addr} {o:HO}:upd H a o a=some o:=by unfold upd;rw [if_pos rfl]
theorem aq {H:Hp} {a b:Addr} {o:HO} (h:b≠a):upd H a o b=H b:=by unfold upd;rw [if_neg h]
theorem hJ {H:Hp} {a:Addr} {o u:HO}:upd (upd H a o) a u=upd H a u:=by
 funext b;unfold upd;split <;> rfl
theorem cY {H:Hp} {a b:Addr} {o u:HO} (h:H a=some o) (h':H b=some u) (d:o≠u):a≠b:=by
 intro e;subst e;rw [h] at h';exact d (Option.some.inj h')
theorem bi {H:Hp} {a b:Addr} {o:HO} (h:H a=some o) (h':H b=none):a≠b:=by
 intro e;subst e;rw [h] at h';cases h'
section
variable (P:Program) (w:World)
def ObjOk (H:Hp) (h:Heap) (a:Addr):HO->Prop
 | .lst xs=>xs.length<=sizeLine/\∃ (its:List Value) (n:Nat),Vals xs its/\h.get? a=some { cls:=.type "list",data:=.seq its.toArray n }
 | .tup xs=>xs.length<=sizeLine/\∃ its:List Value,Vals xs its/\IsTup h a its.toArray
 | .dK kvs=>kvs.length<=sizeLine/\(a == sysModules)=false/\∃ vs,KV kvs vs/\h.DictOf (dq P w) a vs
 | .dT kvs=>kvs.length<=sizeLine/\(a == sysModules)=false/\∃ xs:List (List Key × Addr × Value),
     Paired (fun (p:List Key × V) (q:List Key × Addr × Value)=>p.1=q.1/\H q.2.1=some (.tup (p.1.map kV))/\RelV p.2 q.2.2) kvs xs /\
     ∃ o es ep,h.get? a=some o/\o.ExactDict/\o.data=.dict es ep/\es.toList=xs.map (entryOfKey (tupleKind (dq P w)))/\(xs.map (·.1)).Nodup
 | .set S n=>h.SetOf (intKind P w) a S n
 | .ins C dx fs=>H dx=some (.own a)/\fs.length<=1000/\dx≠a/\h.get? a=some (PySem.W.instObj C dx) /\
     ∃ mA,h.Ns1 dx mA/\(∀ f,RelO (fs.lookup f) (mA f))/\PySem.Within mA (fs.map (·.1))
 | .own _=>∃ o,h.get? a=some o
 | .xd fs=>∃ mA,h.Ns1 a mA/\∀ f,RelO (fs.lookup f) (mA f)
 | .rng lo hi=>∃ t u v,h.get? a=some { cls:=.type "range",data:=.fields #[.int lo t,.int hi u,.int 1 v] }
 | .frz o u=>h.get? a=some o/\ObjOk H h a u
 | .tbl ps=>h.get? a=some { cls:=.none,data:=.fields ps }
 | .met f x=>h.get? a=some (PySem.W.methodObj (.ref f) (.ref x))
 | .ext φ=>φ h/\(∃ o,h.get? a=some o)/\∀ h1 h2:Heap,φ h1->(∀ o,h1.get? a=some o->h2.get? a=some o)->φ h2
def HOk (H:Hp) (h:Heap):Prop:=∀ a o,H a=some o->ObjOk P w H h a o
end
section
variable {P:Program} {w:World} {H H':Hp} {h h':Heap} {a:Addr} {o:HO}
theorem ObjOk.lt (x:ObjOk P w H h a o):a<h.objs.size:=by
 cases o with
 | lst xs=>obtain ⟨_,_,_,_,e⟩:=x;exact Heap.lt_size e
 | tup xs=>obtain ⟨_,_,_,p⟩:=x;exact p.lt
 | dK kvs=>obtain ⟨_,_,_,_,o,_,_,e,_⟩:=x;exact Heap.lt_size e
 | dT kvs=>obtain ⟨_,_,_,_,o,_,_,e,_⟩:=x;exact Heap.lt_size e
 | set S n=>obtain ⟨o,_,_,_,e,_⟩:=x;exact Heap.lt_size e
 | ins C dx fs=>obtain ⟨_,_,_,e,_⟩:=x;exact Heap.lt_size e
 | own y=>obtain ⟨_,e⟩:=x;exact Heap.lt_size e
 | xd fs=>obtain ⟨_,⟨_,_,_,e,_⟩,_⟩:=x;exact Heap.lt_size e
 | rng lo hi=>obtain ⟨_,_,_,e⟩:=x;exact Heap.lt_size e
 | frz ob u=>obtain ⟨e,_⟩:=x;exact Heap.lt_size e
 | tbl ps=>exact Heap.lt_size (show h.get? a=some _ from x)
 | met f y=>exact Heap.lt_size (show h.get? a=some _ from x)
 | ext φ=>obtain ⟨_,⟨_,e⟩,_⟩:=x;exact Heap.lt_size e
theorem Paired.mapP {α β:Type} {F G:α->β->Prop}:∀ {l₁:List α} {l₂:List β},Paired F l₁ l₂->(∀ a b,F a b->G a b)->Paired G l₁ l₂
 | _,_,.nil,_=>.nil
 | _,_,.cons r t,f=>.cons (f _ _ r) (Paired.mapP t f)
theorem Paired.imp' {α β:Type} {F G:α->β->Prop} (f:∀ a b,F a b->G a b) {l₁:List α} {l₂:List β} (r:Paired F l₁ l₂):Paired G l₁ l₂:=Paired.mapP r f
theorem ObjOk.stay (x:ObjOk P w H h a o) (k:∀ b u,(b=a\/H b=some (.own a))->h.get? b=some u->h'.get? b=some u)
   (ho:∀ b,H b=some (.own a)->H' b=some (.own a)) (ht:∀ b xs,H b=some (.tup xs)->H' b=some (.tup xs)):ObjOk P w H' h' a o:=by
 induction o with
 | lst xs=>obtain ⟨z,its,n,r,e⟩:=x;exact ⟨z,its,n,r,k _ _ (.inl rfl) e⟩
 | tup xs=>obtain ⟨z,its,r,ob,e,c⟩:=x;exact ⟨z,its,r,ob,k _ _ (.inl rfl) e,c⟩
 | dK kvs=>obtain ⟨z,y,vs,r,ob,es,ep,e,c⟩:=x;exact ⟨z,y,vs,r,ob,es,ep,k _ _ (.inl rfl) e,c⟩
 | dT kvs =>
   obtain ⟨z,y,xs,r,ob,es,ep,e,c⟩:=x;exact ⟨z,y,xs,Paired.mapP r fun p q z=>⟨z.1,ht _ _ z.2.1,z.2.2⟩,ob,es,ep,k _ _ (.inl rfl) e,c⟩
 | set S n=>obtain ⟨ob,es,ep,t,e,c⟩:=x;exact ⟨ob,es,ep,t,k _ _ (.inl rfl) e,c⟩
 | ins C dx fs =>
   obtain ⟨d,z,ne,e,mA,⟨od,es,ep,e2,c⟩,r⟩:=x;exact ⟨ho _ d,z,ne,k _ _ (.inl rfl) e,mA,⟨od,es,ep,k _ _ (.inr d) e2,c⟩,r⟩
 | own y=>obtain ⟨ob,e⟩:=x;exact ⟨ob,k _ _ (.inl rfl) e⟩
 | xd fs=>obtain ⟨mA,⟨od,es,ep,e,c⟩,r⟩:=x;exact ⟨mA,⟨od,es,ep,k _ _ (.inl rfl) e,c⟩,r⟩
 | rng lo hi=>obtain ⟨t,u,v,e⟩:=x;exact ⟨t,u,v,k _ _ (.inl rfl) e⟩
 | frz ob u ih=>obtain ⟨e,q⟩:=x;exact ⟨k _ _ (.inl rfl) e,ih q⟩
 | tbl ps =>
   have e:h.get? a=some { cls:=.none,data:=.fields ps }:=x;show h'.get? a=some { cls:=.none,data:=.fields ps };exact k a _ (.inl rfl) e
 | met f y =>
   have e:h.get? a=some (PySem.W.methodObj (.ref f) (.ref y)):=x;show h'.get? a=some (PySem.W.methodObj (.ref f) (.ref y));exact k a _ (.inl rfl) e
 | ext φ=>obtain ⟨p,⟨o,e⟩,st⟩:=x;exact ⟨st _ _ p fun o q=>k _ _ (.inl rfl) q,⟨o,k _ _ (.inl rfl) e⟩,st⟩
theorem HOk.lt (x:HOk P w H h) (e:H a=some o):a<h.objs.size:=(x a o e).lt
theorem HOk.fresh (x:HOk P w H h) (e:h.objs.size<=a):H a=none:=by
 cases q:H a with
 | none=>rfl
 | some u=>exact absurd (Nat.lt_of_lt_of_le (x.lt q) e) (Nat.lt_irrefl _)
theorem HOk.kept (x:HOk P w H h) (k:∀ b u,h.get? b=some u->h'.get? b=some u):HOk P w H h':=fun a o e =>
 (x a o e).stay (fun b u _ q=>k b u q) (fun _ q=>q) fun _ _ q=>q
theorem HOk.laid (x:HOk P w H h) (k:∀ b u,h.get? b=some u->h'.get? b=some u) (hp:h.objs.size<=a) (new:ObjOk P w (upd H a o) h' a o):HOk P w (upd H a o) h':=fun b u e=>by
 have hn:=x.fresh hp;by_cases hb:b=a
 . subst hb;rw [ah] at e;cases e;exact new
 . rw [aq hb] at e;exact (x b u e).stay (fun c v _ q=>k c v q) (fun c q=>by rw [aq (bi q hn)];exact q) fun c xs q=>by rw [aq (bi q hn)];exact q
end
def Rd (H:Hp) (a:Addr) (u:HO):Prop:=H a=some u\/∃ o,H a=some (.frz o u)
theorem Rd.ok {P:Program} {w:World} {H:Hp} {h:Heap} {a:Addr} {u:HO} (r:Rd H a u) (x:HOk P w H h):ObjOk P w H h a u:=by
 rcases r with r|⟨o,r⟩
 . exact x a u r
 . obtain ⟨_,q⟩:=x a _ r;exact q
def Mut:Option HO->Prop
 | some (.lst _)=>True
 | some (.dK _)=>True
 | some (.dT _)=>True
 | some (.set _ _)=>True
 | some (.ins _ _ _)=>True
 | some (.ext _)=>True
 | _=>False
section
variable {P:Program} {w:World} {H:Hp} {h h':Heap} {x e:Addr} {o':HO}
theorem HOk.write (ok:HOk P w H h) (mu:Mut (H x)) (he:e=x\/H e=some (.own x)) (k:∀ b u,b≠e->h.get? b=some u->h'.get? b=some u) (heo:∃ u,h'.get? e=some u)
   (new:ObjOk P w (upd H x o') h' x o'):HOk P w (upd H x o') h':=fun b u q=>by
 have nown:∀ c y,H c=some (.own y)->c≠x:=fun c y r z=>by subst z;rw [r] at mu;exact mu
 have ntup:∀ c xs,H c=some (.tup xs)->c≠x:=fun c xs r z=>by subst z;rw [r] at mu;exact mu
 by_cases hb:b=x
 . subst hb;rw [ah] at q;cases q;exact new
 . rw [aq hb] at q;by_cases hbe:b=e
   . have q':H b=some (.own x):=by
       rcases he with z|z
       . exact absurd (hbe.trans z) hb
       . rw [hbe];exact z
     rw [q] at q';cases q';obtain ⟨v,hv⟩:=heo;exact ⟨v,by rw [hbe];exact hv⟩
   . refine (ok b u q).stay (fun c v hc r=>k c v ?_ r) (fun c r=>by rw [aq (nown c b r)];exact r) fun c xs r=>by rw [aq (ntup c xs r)];exact r
     rcases hc with rfl|hc
     . exact hbe
     . rintro rfl;rcases he with z|z
       . exact nown c b hc z
       . rw [hc] at z;cases z;exact hb rfl
end
structure Un (fs ex:List Addr) (H H':Hp) (h h':Heap):Prop where
 keep:∀ b o,h.get? b=some o->H b=none->b ∉ fs->b ∉ ex->h'.get? b=some o
 slot:∀ b o,h.get? b=some o->H b=none->b∈fs->b ∉ ex->∃ sl,h'.get? b=some { o with slots:=sl }
 free:∀ b o,h.get? b=some o->H b=none->b ∉ ex->H' b=none
 there:∀ b o,h.get? b=some o->b ∉ ex->∃ o',h'.get? b=some o'
 tups:∀ b xs,H b=some (.tup xs)->H' b=some (.tup xs)
 frzs:∀ b o u,H b=some (.frz o u)->H' b=some (.frz o u)
 tbls:∀ b ps,H b=some (.tbl ps)->∃ more,H' b=some (.tbl (ps++more))
section
variable {fs fs' ex ex':List Addr} {H H1 H2:Hp} {h h1 h2 h':Heap} {a x e:Addr} {o:HO}
theorem Un.any (u:Un fs ex H H1 h h1) {b:Addr} {ob:Obj} (q:h.get? b=some ob) (n:H b=none) (hx:b ∉ ex):∃ sl,h1.get? b=some { ob with slots:=sl }:=by
 by_cases hb:b∈fs
 . exact u.slot b ob q n hb hx
 . exact ⟨ob.slots,u.keep b ob q n hb hx⟩
theorem Un.kept (k:∀ b u,h.get? b=some u->h'.get? b=some u):Un fs ex H H h h' :=
 ⟨fun b ob q _ _ _=>k b ob q,fun b ob q _ _ _=>⟨ob.slots,k b ob q⟩,fun _ _ _ n _=>n,fun b ob q _=>⟨ob,k b ob q⟩,fun _ _ q=>q,fun _ _ _ q=>q,fun _ ps q=>⟨#[],by rw [q];simp⟩⟩
theorem Un.refl:Un fs ex H H h h:=Un.kept fun _ _ q=>q
theorem Un.laid (k:∀ b u,h.get? b=some u->h'.get? b=some u) (hp:h.objs.size<=a) (hn:H a=none):Un fs ex H (upd H a o) h h' where
 keep:=fun b u q _ _ _=>k b u q
 slot:=fun b u q _ _ _=>⟨u.slots,k b u q⟩
 free:=fun b u q n _=>by rw [aq (Nat.ne_of_lt (Nat.lt_of_lt_of_le (Heap.lt_size q) hp))];exact n
 there:=fun b u q _=>⟨u,k b u q⟩
 tups:=fun b xs q=>by rw [aq (bi q hn)];exact q
 frzs:=fun b u xs q=>by rw [aq (bi q hn)];exact q
 tbls:=fun b ps q=>⟨#[],by rw [aq (bi q hn),q];simp⟩
theorem Un.write (mu:Mut (H x)) (he:e=x\/H e=some (.own x)) (k:∀ b u,b≠e->h.get? b=some u->h'.get? b=some u) (heo:∃ u,h'.get? e=some u):Un fs ex H (upd H x o) h h':=by
 have hx:∀ b,H b=none->b≠x:=fun b n z=>by subst z;rw [n] at mu;exact mu
 have hb:∀ b,H b=none->b≠e:=fun b n z=>by
   subst z;rcases he with r|r
   . exact hx b n r
   . rw [n] at r;cases r
 have hm:∀ b u,H b=some u->¬ Mut (some u)->b≠x:=fun b u q nm z=>by subst z;rw [q] at mu;exact nm mu
 refine ⟨fun b u q n _ _=>k b u (hb b n) q,fun b u q n _ _=>⟨u.slots,k b u (hb b n) q⟩,fun b u q n _=>by rw [aq (hx b n)];exact n,fun b u q _=>?_,
   fun b xs q=>by rw [aq (hm b _ q fun z=>z)];exact q,fun b u xs q=>by rw [aq (hm b _ q fun z=>z)];exact q,fun b ps q=>⟨#[],by rw [aq (hm b _ q fun z=>z),q];simp⟩⟩
 by_cases hbe:b=e
 . subst hbe;exact heo
 . exact ⟨u,k b u hbe q⟩
end
def trk (h:Heap) (H:Hp):List Addr:=(List.range h.objs.size).filter fun a=>(H a).isSome
def vJ (h:Heap) (H:Hp):Heap:=PySem.W.hideAll h (trk h H)
theorem Ny (h:Heap) (H:Hp):(vJ h H).objs.size=h.objs.size:=PySem.W.hideAll_size _ _
theorem Rx {h:Heap} {H:Hp} {b:Addr} {o:Obj} (e:h.get? b=some o) (n:H b=none):(vJ h H).get? b=some o :=
 PySem.W.hideAll_get _ e fun hm=>by
   have q:(H b).isSome=true:=(List.mem_filter.mp hm).2;rw [n] at q;simp at q
theorem SN {h:Heap} {H:Hp} {b:Addr} {o:Obj} (e:(vJ h H).get? b=some o):h.get? b=some o/\H b=none:=by
 have e':h.get? b=some o:=PySem.W.of_hideAll (trk h H) e;refine ⟨e',?_⟩;cases q:H b with
 | none=>rfl
 | some x =>
   have hm:b∈trk h H:=List.mem_filter.mpr ⟨List.mem_range.mpr (Heap.lt_size e'),by simp [q]⟩;have z:(vJ h H).get? b=none:=PySem.W.hideAll_none (trk h H) hm;rw [z] at e;cases e
def SM (g h:Heap) (L:Addr):List (Addr × Obj):=(List.range h.objs.size).filterMap fun a=>if a=L\/(g.get? a).isSome=true then none else (h.get? a).map fun o=>(a,o)
def cL (g h:Heap) (L d:Addr):List (Addr × Obj):=(SM g h L).filter fun p=>decide (p.1≠d)
end L2
namespace L2
open PySem PySem.Spec PyProof.Rows
structure Mod (K:PySem.W.Frag) (mg:Str->Option Value) (base:Heap):Prop where
 kin:K.In base
 glob:base.Ns mainGlobals mg
 blt:∃ mb,base.Ns builtinsNs mb/\∀ x:Str,x≠"__name__"->mb x=bootBuiltins x
 nolimit:base.NoLimit
structure Cx where
 prog:Program
 w:World
 K:PySem.W.Frag
 mg:Str->Option Value
 base:Heap
 A:Around
 N:List Str
 s₀:Shared
 H₀:Hp
 env:Env
 outer:List Env
 stack:List Env
 ex:List Addr
 fn:Str->Bool
 calm:Bool
 pn:List (Addr × Obj)
 xe:Value->Shared->Prop
def frs (l:List Env):List Addr:=l.filterMap (·.frame)
abbrev Cx.fs (X:Cx):List Addr:=frs X.outer
def Vis (sc:Scope) (x:Str):Prop:=sc.names.lookup x=some .local\/sc.names.lookup x=some .cell\/sc.names.lookup x=some .free
def Loc (sc:Scope) (x:Str):Prop:=sc.names.lookup x=some .local\/sc.names.lookup x=some .cell
def UP (env:Env) (h:Heap) (m:Str->Option Value) (x:Str) (u:Value):Prop :=
 (env.kindOf x=some .local/\m x=some u)\/((env.kindOf x=some .cell\/env.kindOf x=some .free)/\∃ c,env.cells.lookup x=some c/\h.IsCell c (some u))
structure Cx.Ok (X:Cx):Prop where
 mod:Mod X.K X.mg X.base
 kind:X.env.scope.kind=.function
 glob:X.env.globals=mainGlobals
 blt:X.env.builtins=builtinsNs
 above:X.s₀.heap.objs.size<=X.env.locals
 inj:∀ x y c,X.env.cells.lookup x=some c->X.env.cells.lookup y=some c->x=y
 has:∀ x,(X.env.kindOf x=some .cell\/X.env.kindOf x=some .free)->∃ c,X.env.cells.lookup x=some c
 cab:∀ x c,X.fn x=true->X.env.cells.lookup x=some c->X.s₀.heap.objs.size<=c
 hd:X.calm=true->X.A.handled=none
 frames:X.A.frames=some X.stack
 stk:X.stack=X.outer\/(X.stack=X.env::X.outer/\X.env.frame=some X.env.locals)
 exf:∀ b∈X.ex,b≠X.env.locals/\∀ x c,X.env.cells.lookup x=some c->c≠b
 bs:∀ b o,X.base.get? b=some o->X.s₀.heap.get? b=some o/\X.H₀ b=none
 bsz:X.base.objs.size<=X.s₀.heap.objs.size
 noex:∀ b o,X.base.get? b=some o->b ∉ X.ex
 exfs:∀ b∈X.ex,b ∉ X.fs
 funs:X.s₀.heap.FunFrames X.base X.outer
 frf:∀ b∈X.fs,X.H₀ b=none
structure Inv (X:Cx) (pins:List (Addr × Obj)) (σ:List (Option V)) (H:Hp) (s:Shared):Prop where
 ok:X.Ok
 os:s.os=X.s₀.os
 bare:AllBare s.gens
 base:Un X.fs X.ex X.H₀ H X.s₀.heap s.heap
 loc:∃ m,s.heap.Ns X.env.locals m/\∀ (i:Nat) (x:Str) (v:V),X.N[i]?=some x->σ[i]?=some (some v)->Vis X.env.scope x->∃ u,RelV v u/\UP X.env s.heap m x u
 cell:∀ x c,X.env.cells.lookup x=some c->∃ v,s.heap.IsCell c v
 free:H X.env.locals=none
 freeC:∀ x c,X.env.cells.lookup x=some c->H c=none
 pin:∀ p∈X.pn++pins,s.heap.get? p.1=some p.2/\H p.1=none/\p.1≠X.env.locals/\p.1 ∉ X.fs/\∀ v,p.2.data≠.cell v
 hok:HOk X.prog X.w H s.heap
 len:σ.length=X.N.length
section
variable {X:Cx} {pins:List (Addr × Obj)} {σ:List (Option V)} {H H':Hp} {s:Shared} {h':Heap}
theorem Cx.Ok.nofr (ok:X.Ok) {b:Addr} {o:Obj} (e:X.base.get? b=some o):b ∉ X.fs:=fun hb=>by
 have:=(ok.funs.mem hb).1;rw [e] at this;cases this
theorem Inv.bs (I:Inv X pins σ H s):∀ b o,X.base.get? b=some o->s.heap.get? b=some o/\H b=none:=fun b o e =>
 ⟨I.base.keep b o (I.ok.bs b o e).1 (I.ok.bs b o e).2 (I.ok.nofr e) (I.ok.noex b o e),I.base.free b o (I.ok.bs b o e).1 (I.ok.bs b o e).2 (I.ok.noex b o e)⟩
theorem Inv.bk (I:Inv X pins σ H s):∀ b o,X.base.get? b=some o->s.heap.get? b=some o:=fun b o e=>(I.bs b o e).1
theorem Inv.mod (I:Inv X pins σ H s):Mod X.K X.mg X.base:=I.ok.mod
theorem Inv.kIn (I:Inv X pins σ H s):X.K.In s.heap:=I.ok.mod.kin.keeps I.bk
theorem Inv.lt (I:Inv X pins σ H s):X.env.locals<s.heap.objs.size:=let ⟨_,hn,_⟩:=I.loc;hn.lt
theorem Inv.sz (I:Inv X pins σ H s):X.s₀.heap.objs.size<=s.heap.objs.size:=Nat.le_trans I.ok.above (Nat.le_of_lt I.lt)
theorem Inv.nofs (I:Inv X pins σ H s) {a:Addr} (h:s.heap.objs.size<=a):a ∉ X.fs:=fun hb=>by
 obtain ⟨_,o,ho,_⟩:=I.ok.funs.mem hb;exact absurd (Nat.lt_of_lt_of_le (Heap.lt_size ho) (Nat.le_trans I.sz h)) (Nat.lt_irrefl _)
theorem Inv.cne (I:Inv X pins σ H s):∀ x c,X.env.cells.lookup x=some c->c≠X.env.locals:=fun x c e z=>by
 obtain ⟨v,o,ho,hd⟩:=I.cell x c e;obtain ⟨m,⟨o',es,ep,ho',hd',_⟩,_⟩:=I.loc;rw [z,ho'] at ho;cases ho;rw [hd'] at hd;cases hd
theorem Inv.funs (I:Inv X pins σ H s):s.heap.FunFrames X.base X.outer:=by
 have all:∀ (l:List Env),(∀ b∈frs l,b∈X.fs)->X.s₀.heap.FunFrames X.base l->s.heap.FunFrames X.base l:=by
   intro l
   induction l with
   | nil=>intro _ _;trivial
   | cons env r ih =>
     intro hs hl;obtain ⟨hk,⟨L,o,hf,hn,ho,hd⟩,hr⟩:=hl;have hL:L∈X.fs:=hs L (by unfold frs;rw [List.filterMap_cons,hf];exact List.mem_cons_self);obtain ⟨sl,e⟩:=I.base.slot L o ho (I.ok.frf L hL) hL fun z=>I.ok.exfs L z hL;exact ⟨hk,⟨L,_,hf,hn,e,hd⟩,ih (fun b hb=>hs b (by unfold frs;rw [List.filterMap_cons,hf];exact List.mem_cons_of_mem _ hb)) hr⟩
 exact all X.outer (fun _ hb=>hb) I.ok.funs
theorem Inv.stack (I:Inv X pins σ H s):s.heap.FunFrames X.base X.stack:=by
 rcases I.ok.stk with e|⟨e,hf⟩
 . rw [e];exact I.funs
 . rw [e];obtain ⟨m,hn,_⟩:=I.loc;refine .cons (by rw [I.ok.kind];decide) hf hn ?_ I.funs;exact Heap.get?_none_of_le (Nat.le_trans I.ok.bsz I.ok.above)
theorem Inv.stkSub (I:Inv X pins σ H s):∀ b∈frs X.stack,b∈X.env.locals::X.fs:=fun b hb=>by
 rcases I.ok.stk with e|⟨e,hf⟩
 . rw [e] at hb;exact List.mem_cons_of_mem _ hb
 . rw [e] at hb;unfold frs at hb;rw [List.filterMap_cons,hf] at hb;exact hb
theorem Inv.stkFree (I:Inv X pins σ H s):∀ b∈frs X.stack,H b=none:=fun b hb=>by
 rcases List.mem_cons.mp (I.stkSub b hb) with e|hb
 . rw [e];exact I.free
 . obtain ⟨_,o,ho,_⟩:=I.ok.funs.mem hb;exact I.base.free b o ho (I.ok.frf b hb) fun z=>I.ok.exfs b z hb
theorem Inv.step {g':Array GenState} {t':Nat} {d':Drawn} {ch:List Addr} (I:Inv X pins σ H s)
   (hch:∀ b∈ch,(b∈X.ex\/X.s₀.heap.objs.size<=b)/\b≠X.env.locals/\(∀ x c,X.env.cells.lookup x=some c->c≠b)/\∀ p∈X.pn++pins,p.1≠b)
   (keep:∀ b o,b≠X.env.locals->b ∉ X.fs->b ∉ ch->s.heap.get? b=some o->H b=none->h'.get? b=some o)
   (slot:∀ b o,b≠X.env.locals->b∈X.fs->b ∉ ch->s.heap.get? b=some o->H b=none->∃ sl,h'.get? b=some { o with slots:=sl }) (free:∀ b o,b ∉ ch->s.heap.get? b=some o->H b=none->H' b=none)
   (there:∀ b o,b ∉ ch->s.heap.get? b=some o->∃ o',h'.get? b=some o')
   (tups:∀ b xs,H b=some (.tup xs)->H' b=some (.tup xs)) (frzs:∀ b o u,H b=some (.frz o u)->H' b=some (.frz o u)) (tbls:∀ b ps,H b=some (.tbl ps)->∃ more,H' b=some (.tbl (ps++more)))
   (ns:∀ m,s.heap.Ns X.env.locals m->h'.Ns X.env.locals m) (hok:HOk X.prog X.w H' h') (hg:AllBare g') :
   Inv X pins σ H' { s with heap:=h',gens:=g',drawn:=d',toks:=t' }:=by
 have neL:∀ b o,X.s₀.heap.get? b=some o->b≠X.env.locals:=fun b o e=>Nat.ne_of_lt (Nat.lt_of_lt_of_le (Heap.lt_size e) I.ok.above);have neC:∀ b o,X.s₀.heap.get? b=some o->b ∉ X.ex->b ∉ ch:=fun b o e hx hb=>by
   rcases (hch b hb).1 with z|z
   . exact hx z
   . exact absurd (Nat.lt_of_lt_of_le (Heap.lt_size e) z) (Nat.lt_irrefl _)
 have cellK:∀ x c,X.env.cells.lookup x=some c->∀ v,s.heap.IsCell c v->h'.IsCell c v:=fun x c e v ⟨o,ho,hd⟩=>by
   have nch:c ∉ ch:=fun z=>(hch c z).2.2.1 x c e rfl;by_cases hc:c∈X.fs
   . obtain ⟨sl,q⟩:=slot c o (I.cne x c e) hc nch ho (I.freeC x c e);exact ⟨_,q,hd⟩
   . exact ⟨o,keep c o (I.cne x c e) hc nch ho (I.freeC x c e),hd⟩
 refine ⟨I.ok,I.os,hg,⟨fun b o e n hb hx=>?_,fun b o e n hb hx=>?_,fun b o e n hx=>?_,fun b o e hx=>?_,fun b xs e=>tups b xs (I.base.tups b xs e),fun b o xs e=>frzs b o xs (I.base.frzs b o xs e),fun b ps e=>?_⟩,?_,fun x c e=>?_,?_,fun x c e=>?_,fun p hp=>?_,hok,I.len⟩
 . exact keep b o (neL b o e) hb (neC b o e hx) (I.base.keep b o e n hb hx) (I.base.free b o e n hx)
 . obtain ⟨sl,e1⟩:=I.base.slot b o e n hb hx;obtain ⟨sl',e2⟩:=slot b _ (neL b o e) hb (neC b o e hx) e1 (I.base.free b o e n hx);exact ⟨sl',e2⟩
 . obtain ⟨o',e1⟩:=I.base.there b o e hx;exact free b o' (neC b o e hx) e1 (I.base.free b o e n hx)
 . obtain ⟨o',e1⟩:=I.base.there b o e hx;exact there b o' (neC b o e hx) e1
 . obtain ⟨m1,e1⟩:=I.base.tbls b ps e;obtain ⟨m2,e2⟩:=tbls b _ e1;exact ⟨m1++m2,by rw [e2,Array.append_assoc]⟩
 . obtain ⟨m,hn,hl⟩:=I.loc;refine ⟨m,ns m hn,fun i x v e1 e2 e3=>?_⟩;obtain ⟨u,r,l⟩:=hl i x v e1 e2 e3;refine ⟨u,r,?_⟩;rcases l with l|⟨k,c,e,z⟩
   . exact .inl l
   . exact .inr ⟨k,c,e,cellK x c e _ z⟩
 . obtain ⟨v,z⟩:=I.cell x c e;exact ⟨v,cellK x c e v z⟩
 . obtain ⟨m,⟨o,_,_,ho,_⟩,_⟩:=I.loc;exact free _ o (fun z=>(hch _ z).2.1 rfl) ho I.free
 . obtain ⟨v,o,ho,hd⟩:=I.cell x c e;exact free c o (fun z=>(hch c z).2.2.1 x c e rfl) ho (I.freeC x c e)
 . obtain ⟨e,n,ne,nf,d⟩:=I.pin p hp;have nch:p.1 ∉ ch:=fun z=>(hch p.1 z).2.2.2 p hp rfl;exact ⟨keep p.1 p.2 ne nf nch e n,free p.1 p.2 nch e n,ne,nf,d⟩
theorem Inv.un {t':Nat} (I:Inv X pins σ H s) (u:Un X.fs [] H H' s.heap h') (hok:HOk X.prog X.w H' h'):Inv X pins σ H' { s with heap:=h',toks:=t' }:=by
 obtain ⟨m,⟨o,es,ep,ho,r⟩,_⟩:=id I.loc;obtain ⟨sl,hL⟩:=u.any ho I.free (by simp);exact I.step (g':=s.gens) (d':=s.drawn) (ch:=[]) (fun _ z=>nomatch z) (fun b o _ hb _ e n=>u.keep b o e n hb (by simp)) (fun b o _ hb _ e n=>u.slot b o e n hb (by simp)) (fun b o _ e n=>u.free b o e n (by simp)) (fun b o _ e=>u.there b o e (by simp)) u.tups u.frzs u.tbls (fun m' hm=>by
   obtain ⟨o',es',ep',ho',r'⟩:=hm;rw [ho] at ho';cases ho';exact ⟨_,es',ep',hL,r'⟩) hok I.bare
theorem Inv.call {g':Array GenState} {t':Nat} {d':Drawn} {ch:List Addr} (I:Inv X pins σ H s) (u:Un (frs X.stack) ch H H' s.heap h') (hok:HOk X.prog X.w H' h') (hg:AllBare g')
   (hch:∀ b∈ch,(b∈X.ex\/X.s₀.heap.objs.size<=b)/\b≠X.env.locals/\(∀ x c,X.env.cells.lookup x=some c->c≠b)/\∀ p∈X.pn++pins,p.1≠b) :
   Inv X pins σ H' { s with heap:=h',gens:=g',drawn:=d',toks:=t' }:=by
 obtain ⟨m,⟨o,es,ep,ho,r⟩,_⟩:=id I.loc;obtain ⟨sl,hL⟩:=u.any ho I.free fun z=>(hch _ z).2.1 rfl;exact I.step (ch:=ch) hch (fun b o hL hb hc e n=>u.keep b o e n (fun z=>(List.mem_cons.mp (I.stkSub b z)).elim hL hb) hc) (fun b o _ _ hc e n=>u.any e n hc) (fun b o hc e n=>u.free b o e n hc) (fun b o hc e=>u.there b o e hc) u.tups u.frzs u.tbls (fun m' hm=>by
   obtain ⟨o',es',ep',ho',r'⟩:=hm;rw [ho] at ho';cases ho';exact ⟨_,es',ep',hL,r'⟩) hok hg
theorem Inv.turned {t':Nat} {it:Addr} (I:Inv X pins σ H s) (k:∀ b o,b≠it->s.heap.get? b=some o->h'.get? b=some o) (hn:H it=none) (hL:it≠X.env.locals)
   (h1:it∈X.ex\/X.s₀.heap.objs.size<=it) (h2:∀ x c,X.env.cells.lookup x=some c->c≠it) (h3:∀ p∈X.pn++pins,p.1≠it):Inv X pins σ H { s with heap:=h',toks:=t' }:=by
 have nit:∀ b u,H b=some u->b≠it:=fun b u e z=>by rw [z,hn] at e;cases e
 refine I.step (g':=s.gens) (d':=s.drawn) (ch:=[it]) (fun b hb=>?_) (fun b o _ _ hc e _=>k b o (fun z=>hc (by simp [z])) e) (fun b o _ _ hc e _=>⟨o.slots,k b o (fun z=>hc (by simp [z])) e⟩) (fun _ _ _ _ n=>n)
   (fun b o hc e=>⟨o,k b o (fun z=>hc (by simp [z])) e⟩) (fun _ _ e=>e) (fun _ _ _ e=>e) (fun b ps e=>⟨#[],by rw [e];simp⟩) (fun m hm=>?_) (fun b u e=>?_) I.bare
 . have e:b=it:=by simpa using hb
   subst e;exact ⟨h1,hL,h2,h3⟩
 . obtain ⟨o,es,ep,ho,r⟩:=hm;exact ⟨o,es,ep,k _ o (Ne.symm hL) ho,r⟩
 . refine (I.hok b u e).stay (fun c v hc q=>k c v ?_ q) (fun _ q=>q) fun _ _ q=>q;rcases hc with z|z
   . rw [z];exact nit b u e
   . exact nit c _ z
theorem Inv.tok (I:Inv X pins σ H s) (t:Nat):Inv X pins σ H { s with toks:=t }:=I.un (h':=s.heap) (t':=t) Un.refl I.hok
theorem Inv.kept {t':Nat} (I:Inv X pins σ H s) (k:∀ b u,s.heap.get? b=some u->h'.get? b=some u):Inv X pins σ H { s with heap:=h',toks:=t' }:=I.un (Un.kept k) (I.hok.kept k)
theorem Inv.laid {a:Addr} {o:HO} {t':Nat} (I:Inv X pins σ H s) (k:∀ b u,s.heap.get? b=some u->h'.get? b=some u) (hp:s.heap.objs.size<=a) (new:ObjOk X.prog X.w (upd H a o) h' a o) :
   Inv X pins σ (upd H a o) { s with heap:=h',toks:=t' }:=I.un (Un.laid k hp (I.hok.fresh hp)) (I.hok.laid k hp new)
theorem Inv.write {x e:Addr} {o:HO} {t':Nat} (I:Inv X pins σ H s) (mu:Mut (H x)) (he:e=x\/H e=some (.own x)) (k:∀ b u,b≠e->s.heap.get? b=some u->h'.get? b=some u) (heo:∃ u,h'.get? e=some u)
   (new:ObjOk X.prog X.w (upd H x o) h' x o):Inv X pins σ (upd H x o) { s with heap:=h',toks:=t' }:=I.un (Un.write mu he k heo) (I.hok.write mu he k heo new)
theorem Inv.pins_of {pins':List (Addr × Obj)} (I:Inv X pins σ H s) (h:∀ p∈pins',s.heap.get? p.1=some p.2/\H p.1=none/\p.1≠X.env.locals/\p.1 ∉ X.fs/\∀ v,p.2.data≠.cell v):Inv X pins' σ H s :=
 ⟨I.ok,I.os,I.bare,I.base,I.loc,I.cell,I.free,I.freeC,fun p hp=>(List.mem_append.mp hp).elim (fun z=>I.pin p (List.mem_append_left _ z)) (h p),I.hok,I.len⟩
theorem Am {N:List Str} (hN:N.Nodup) {i j:Nat} {x:Str} (a:N[i]?=some x) (b:N[j]?=some x):i=j:=by
 obtain ⟨h1,e1⟩:=List.getElem?_eq_some_iff.mp a;obtain ⟨h2,e2⟩:=List.getElem?_eq_some_iff.mp b;exact (List.getElem_inj hN).mp (e1.trans e2.symm)
theorem Nd {M:Model} {A:Around} {E:Value->Shared->Prop} {i:Nat} {x:Str} {v:V} {u:Value} {Q:Unit->Shared->Prop} (I:Inv X pins σ H s) (hN:X.N.Nodup) (hi:X.N[i]?=some x) (hx:Loc X.env.scope x) (r:RelV v u)
   (h:∀ s',Inv X pins (σ.set i (some v)) H s'->(∃ a,Heap.SameBut a s.heap s'.heap/\(a=X.env.locals\/X.env.cells.lookup x=some a))->Q () s') (hf:X.fn x=true\/X.env.scope.names.lookup x=some .local:=by first|exact .inl rfl|exact .inr rfl|assumption):wpAny M A (storeName X.env x u) Q E s:=by
 obtain ⟨m,hn,hl⟩:=id I.loc;have hcls:(X.env.scope.kind == .class || (X.env.scope.kind == .module && X.env.locals != X.env.globals))=false:=by rw [I.ok.kind];rfl
 have hiσ:i<σ.length:=by rw [I.len];exact (List.getElem?_eq_some_iff.mp hi).1
 have cne:=I.cne;have tracked:∀ {a:Addr} {h':Heap},(∃ o,s.heap.get? a=some o/\H a=none)->Heap.SameBut a s.heap h'->HOk X.prog X.w H h':=fun {a h'} ha hs b ob e=>by
   obtain ⟨_,_,hfree⟩:=ha;refine (I.hok b ob e).stay (fun c w' hc q=>(hs.2 c ?_).trans q) (fun _ q=>q) fun _ _ q=>q;rintro rfl;rcases hc with rfl|hc
   . rw [hfree] at e;cases e
   . rw [hfree] at hc;cases hc
 rcases hx with hk|hk
 . refine wpAny_storeName_local hk hn (fun h' hn' hs=>?_) hcls;obtain ⟨oL,_,_,hoL,_⟩:=id hn;refine h _ ⟨I.ok,I.os,I.bare,⟨fun b o e n hb hx=>?_,fun b o e n hb hx=>?_,I.base.free,fun b o e hx=>?_,I.base.tups,I.base.frzs,I.base.tbls⟩,⟨_,hn',fun j y v' e1 e2 e3=>?_⟩,fun y c e=>?_,I.free,I.freeC,fun p hp=>?_,tracked ⟨oL,hoL,I.free⟩ hs,by simpa using I.len⟩ ⟨_,hs,.inl rfl⟩
   . exact (hs.2 b (Nat.ne_of_lt (Nat.lt_of_lt_of_le (Heap.lt_size e) I.ok.above))).trans (I.base.keep b o e n hb hx)
   . obtain ⟨sl,e1⟩:=I.base.slot b o e n hb hx;exact ⟨sl,(hs.2 b (Nat.ne_of_lt (Nat.lt_of_lt_of_le (Heap.lt_size e) I.ok.above))).trans e1⟩
   . obtain ⟨o',e1⟩:=I.base.there b o e hx;exact ⟨o',(hs.2 b (Nat.ne_of_lt (Nat.lt_of_lt_of_le (Heap.lt_size e) I.ok.above))).trans e1⟩
   . by_cases hj:j=i
     . subst hj;rw [hi] at e1;cases e1;rw [List.getElem?_set_self hiσ] at e2;cases e2;exact ⟨u,r,.inl ⟨hk,by simp⟩⟩
     . rw [List.getElem?_set_ne (Ne.symm hj)] at e2;obtain ⟨u',r',q⟩:=hl j y v' e1 e2 e3;refine ⟨u',r',?_⟩;rcases q with ⟨k,e⟩|⟨k,c,e,z⟩
       . refine .inl ⟨k,?_⟩;have:y≠x:=fun e=>hj (Am hN e1 (e ▸ hi));simp [this,e]
       . exact .inr ⟨k,c,e,z.sameBut hs (cne y c e)⟩
   . obtain ⟨w',z⟩:=I.cell y c e;exact ⟨w',z.sameBut hs (cne y c e)⟩
   . obtain ⟨e,n,ne,nf,d⟩:=I.pin p hp;exact ⟨(hs.2 p.1 ne).trans e,n,ne,nf,d⟩
 . have hfn:X.fn x=true:=by
     rcases hf with z|z
     . exact z
     . rw [z] at hk;cases hk
   obtain ⟨c,hc⟩:=I.ok.has x (.inl hk);obtain ⟨w',z⟩:=I.cell x c hc;refine wpAny_storeName_cell I.ok.kind hk hc z (fun h' hc' hs=>?_);obtain ⟨oc,hoc,hocd⟩:=id z;refine h { s with heap:=h' } ⟨I.ok,I.os,I.bare,⟨fun b o e n hb hx=>?_,fun b o e n hb hx=>?_,I.base.free,fun b o e hx=>?_,I.base.tups,I.base.frzs,I.base.tbls⟩,⟨m,hn.sameBut hs (Ne.symm (cne x c hc)),fun j y v' e1 e2 e3=>?_⟩,fun y c' e=>?_,I.free,I.freeC,fun p hp=>?_,tracked ⟨oc,hoc,I.freeC x c hc⟩ hs,by simpa using I.len⟩ ⟨c,hs,.inr hc⟩
   . exact (hs.2 b (Nat.ne_of_lt (Nat.lt_of_lt_of_le (Heap.lt_size e) (I.ok.cab x c hfn hc)))).trans (I.base.keep b o e n hb hx)
   . obtain ⟨sl,e1⟩:=I.base.slot b o e n hb hx;exact ⟨sl,(hs.2 b (Nat.ne_of_lt (Nat.lt_of_lt_of_le (Heap.lt_size e) (I.ok.cab x c hfn hc)))).trans e1⟩
   . obtain ⟨o',e1⟩:=I.base.there b o e hx;exact ⟨o',(hs.2 b (Nat.ne_of_lt (Nat.lt_of_lt_of_le (Heap.lt_size e) (I.ok.cab x c hfn hc)))).trans e1⟩
   . by_cases hj:j=i
     . subst hj;rw [hi] at e1;cases e1;rw [List.getElem?_set_self hiσ] at e2;cases e2;exact ⟨u,r,.inr ⟨.inl hk,c,hc,hc'⟩⟩
     . rw [List.getElem?_set_ne (Ne.symm hj)] at e2;obtain ⟨u',r',q⟩:=hl j y v' e1 e2 e3;refine ⟨u',r',?_⟩;rcases q with q|⟨k,c',e,z'⟩
       . exact .inl q
       . refine .inr ⟨k,c',e,z'.sameBut hs ?_⟩;rintro rfl;exact hj (Am hN e1 (I.ok.inj _ _ _ e hc ▸ hi))
   . by_cases hcc:c'=c
     . subst hcc;exact ⟨_,hc'⟩
     . obtain ⟨w2,z2⟩:=I.cell y c' e;exact ⟨w2,z2.sameBut hs hcc⟩
   . obtain ⟨e,n,ne,nf,d⟩:=I.pin p hp;refine ⟨(hs.2 p.1 ?_).trans e,n,ne,nf,d⟩;intro q;rw [q,hoc] at e;have q':oc=p.2:=Option.some.inj e;exact d w' (by rw [<- q'];exact hocd)
theorem mz {M:Model} {A:Around} {E:Value->Shared->Prop} {i:Nat} {x:Str} {v:V} {u:Value} {Q:Unit->Shared->Prop} (I:Inv X pins σ H s) (hN:X.N.Nodup) (hi:X.N[i]?=some x) (hx:Loc X.env.scope x) (r:RelV v u)
   (h:∀ s',Inv X pins (σ.set i (some v)) H s'->Q () s') (hf:X.fn x=true\/X.env.scope.names.lookup x=some .local:=by first|exact .inl rfl|exact .inr rfl|assumption):wpAny M A (storeName X.env x u) Q E s :=
 Nd I hN hi hx r (fun s' I' _=>h s' I') hf
theorem Inv.call' {s':Shared} {ch:List Addr} (I:Inv X pins σ H s) (ho:s'.os=s.os) (u:Un (frs X.stack) ch H H' s.heap s'.heap) (hok:HOk X.prog X.w H' s'.heap) (hg:AllBare s'.gens)
   (hch:∀ b∈ch,(b∈X.ex\/X.s₀.heap.objs.size<=b)/\b≠X.env.locals/\(∀ x c,X.env.cells.lookup x=some c->c≠b)/\∀ p∈X.pn++pins,p.1≠b):Inv X pins σ H' s':=by
 obtain ⟨h',g',d',t',o'⟩:=s';have e:o'=s.os:=ho;subst e;exact I.call (g':=g') (t':=t') (d':=d') u hok hg hch
end
abbrev XK:=Value->Option Addr->Hp->Prop
abbrev St:=List (Option V)
abbrev VK:=V->Hp->Prop
abbrev TE:=St->Hp->VK->Prop
abbrev TT:=St->Hp->(Bool->Hp->Prop)->Prop
abbrev TA:=St->Hp->(List V->Hp->Prop)->Prop
structure Ends where
 nx:St->Hp->Prop
 rt:VK
 bk:St->Hp->Prop:=fun _ _=>False
 ct:St->Hp->Prop:=fun _ _=>False
abbrev TS:=Ends->St->Hp->Prop
def EP (X:Cx) (pins:List (Addr × Obj)) (σ:St) (Q:VK) (u:Value) (s':Shared):Prop:=∃ v H',Inv X pins σ H' s'/\RelV v u/\Q v H'
def TP (X:Cx) (pins:List (Addr × Obj)) (σ:St) (Q:Bool->Hp->Prop) (b:Bool) (s':Shared):Prop:=∃ H',Inv X pins σ H' s'/\Q b H'
def AP (X:Cx) (pins:List (Addr × Obj)) (σ:St) (Q:List V->Hp->Prop) (us:List Value) (s':Shared):Prop:=∃ vs H',Inv X pins σ H' s'/\Vals vs us/\Q vs H'
def SP (X:Cx) (pins:List (Addr × Obj)) (D:Ends) (f:Flow) (s':Shared):Prop :=
 match f with
 | .next=>∃ σ' H',Inv X pins σ' H' s'/\D.nx σ' H'
 | .brk=>∃ σ' H',Inv X pins σ' H' s'/\D.bk σ' H'
 | .cont=>∃ σ' H',Inv X pins σ' H' s'/\D.ct σ' H'
 | .ret u=>∃ v σ' H',Inv X pins σ' H' s'/\RelV v u/\D.rt v H'
def PE (X:Cx) (e:Expr) (t:TE):Prop :=
 ∀ (pins:List (Addr × Obj)) (s:Shared) (σ:St) (H:Hp) (Q:VK),Inv X pins σ H s->t σ H Q->wpAny (model X.prog X.w) X.A (eval e X.env) (EP X pins σ Q) X.xe s
def PT (X:Cx) (e:Expr) (t:TT):Prop :=
 ∀ (pins:List (Addr × Obj)) (s:Shared) (σ:St) (H:Hp) (Q:Bool->Hp->Prop),Inv X pins σ H s->t σ H Q->wpAny (model X.prog X.w) X.A (isTrue e X.env (eval e X.env)) (TP X pins σ Q) X.xe s
def PW (X:Cx) (e:Expr) (t:TT):Prop :=
 ∀ (whole:Sem Value) (pins:List (Addr × Obj)) (s:Shared) (σ:St) (H:Hp) (Q:Bool->Hp->Prop),Inv X pins σ H s->t σ H Q->wpAny (model X.prog X.w) X.A (isTrue e X.env whole) (TP X pins σ Q) X.xe s
theorem PW.pt {X:Cx} {e:Expr} {t:TT} (h:PW X e t):PT X e t:=h _
def PA (X:Cx) (es:List Expr) (t:TA):Prop :=
 ∀ (pos:Pos) (pins:List (Addr × Obj)) (s:Shared) (σ:St) (H:Hp) (Q:List V->Hp->Prop),Inv X pins σ H s->t σ H Q->wpAny (model X.prog X.w) X.A (spliced (backTo pos (starEach es X.env))) (AP X pins σ Q) X.xe s
def PS (X:Cx) (st:Stmt) (t:TS):Prop :=
 ∀ (pins:List (Addr × Obj)) (s:Shared) (σ:St) (H:Hp) (D:Ends),Inv X pins σ H s->t D σ H->wpAny (model X.prog X.w) X.A (exec st X.env) (SP X pins D) X.xe s
def PSs (X:Cx) (st:List Stmt) (t:TS):Prop :=
 ∀ (pins:List (Addr × Obj)) (s:Shared) (σ:St) (H:Hp) (D:Ends),Inv X pins σ H s->t D σ H->wpAny (model X.prog X.w) X.A (execs st X.env) (SP X pins D) X.xe s
theorem thn {α:Type} {t:Sem α} {Q Q':α->Shared->Prop} {M:Model} {A:Around} {E:Value->Shared->Prop} {s:Shared} (h:wpAny M A t Q E s) (hQ:∀ a s,Q a s->Q' a s):wpAny M A t Q' E s:=wpAny_mono h hQ fun _ _ x=>x
theorem bn {t:Sem Value} {X:Cx} {pins:List (Addr × Obj)} {σ:St} {Q:VK} {Q':Value->Shared->Prop} {M:Model} {A:Around} {E:Value->Shared->Prop} {s:Shared} (h:wpAny M A t (EP X pins σ Q) E s) (hQ:∀ u s v H,Inv X pins σ H s->RelV v u->Q v H->Q' u s):wpAny M A t Q' E s:=thn h fun u s ⟨v,H,I,r,q⟩=>hQ u s v H I r q
theorem mS {t:Sem (List Value)} {X:Cx} {pins:List (Addr × Obj)} {σ:St} {Q:List V->Hp->Prop} {Q':List Value->Shared->Prop} {M:Model} {A:Around} {E:Value->Shared->Prop} {s:Shared} (h:wpAny M A t (AP X pins σ Q) E s) (hQ:∀ u s v H,Inv X pins σ H s->Vals v u->Q v H->Q' u s):wpAny M A t Q' E s:=thn h fun u s ⟨v,H,I,r,q⟩=>hQ u s v H I r q
theorem EX {t:Sem Bool} {X:Cx} {pins:List (Addr × Obj)} {σ:St} {Q:Bool->Hp->Prop} {Q':Bool->Shared->Prop} {M:Model} {A:Around} {E:Value->Shared->Prop} {s:Shared} (h:wpAny M A t (TP X pins σ Q) E s) (hQ:∀ u s H,Inv X pins σ H s->Q u H->Q' u s):wpAny M A t Q' E s:=thn h fun u s ⟨H,I,q⟩=>hQ u s H I q
end L2
namespace L2
open PySem PySem.Spec PyProof.Rows
section
variable {X:Cx}
def G2 (i:Nat):TE:=fun σ H Q=>∃ v,σ[i]?=some (some v)/\Q v H
def tC (v:V):TE:=fun _ H Q=>Q v H
theorem Oe {i:Nat} {x:Str} {pos:Pos} (hN:X.N[i]?=some x) (hv:Vis X.env.scope x) (hd:(x == ("__debug__":Str))=false:=by decide) (hcd:(x == ("__classdict__":Str))=false:=by decide):PE X (.Name x pos) (G2 i):=by
 intro pins s σ H Q I h;obtain ⟨v,e,h⟩:=h;obtain ⟨m,hn,hl⟩:=I.loc;obtain ⟨u,r,l⟩:=hl i x v hN e hv;have fin:EP X pins σ Q u s:=⟨v,H,I,r,h⟩;rcases l with ⟨hk,hm⟩|⟨hk,c,hc,hcell⟩
 . exact wpAny_Name (wpAny_loadName_local I.ok.kind hk hn hm fin) hd
 . rcases hk with hk|hk
   . exact wpAny_Name (wpAny_loadName_cell I.ok.kind hk hc hcell fin) hd
   . exact wpAny_Name (wpAny_loadName_free I.ok.kind hk hc hcell fin hcd) hd
theorem ag {i j pos}:PE X (.Constant (.int i) j pos) (tC (.int i)):=fun _ _ _ H _ I h=>wpAny_Constant_int ⟨.int i,H,I.tok _,⟨_,rfl⟩,h⟩
theorem lM {b j pos}:PE X (.Constant (.bool b) j pos) (tC (.bl b)):=fun _ _ _ H _ I h=>Constant_bool ⟨.bl b,H,I,rfl,h⟩
theorem Nw {j pos}:PE X (.Constant .none j pos) (tC .non):=fun _ _ _ H _ I h=>Constant_none ⟨.non,H,I,rfl,h⟩
theorem aN {x j pos}:PE X (.Constant (.str x) j pos) (tC (.str x)):=fun _ _ _ H _ I h=>Calls.Constant_str ⟨.str x,H,I.tok _,⟨_,rfl⟩,h⟩
def Gl (X:Cx) (x:Str):Prop:=X.env.kindOf x=some .globalImplicit
theorem jG {E:Value->Shared->Prop} {pins:List (Addr × Obj)} {s:Shared} {σ:St} {H:Hp} {x:Str} {u:Value} {pos:Pos} {Q:Value->Shared->Prop} (I:Inv X pins σ H s) (hg:Gl X x) (hm:X.mg x=some u) (h:Q u s)
   (hd:(x == ("__debug__":Str))=false:=by decide):wpAny (model X.prog X.w) X.A (eval (.Name x pos) X.env) Q E s :=
 Calls.Name_function_global I.ok.kind hg (Calls.loadGlobal_global (by rw [I.ok.glob];exact I.mod.glob.keeps I.bk) hm h) hd
theorem qv {E:Value->Shared->Prop} {pins:List (Addr × Obj)} {s:Shared} {σ:St} {H:Hp} {x:Str} {u:Value} {pos:Pos} {Q:Value->Shared->Prop} (I:Inv X pins σ H s) (hg:Gl X x) (hm:X.mg x=none) (hv:bootBuiltins x=some u) (h:Q u s)
   (hn:x≠"__name__":=by decide) (hd:(x == ("__debug__":Str))=false:=by decide):wpAny (model X.prog X.w) X.A (eval (.Name x pos) X.env) Q E s:=by
 obtain ⟨mb,h1,h2⟩:=I.mod.blt;exact Calls.Name_function_global I.ok.kind hg (Calls.loadGlobal_builtin (by rw [I.ok.glob];exact I.mod.glob.keeps I.bk) hm (by rw [I.ok.blt];exact h1.keeps I.bk) ((h2 x hn).trans hv) h) hd
theorem ff {x:Str} {v:V} {u:Value} {pos:Pos} (hg:Gl X x) (hm:X.mg x=some u) (r:RelV v u) (hd:(x == ("__debug__":Str))=false:=by decide):PE X (.Name x pos) (tC v) :=
 fun _ _ _ H _ I h=>jG I hg hm ⟨v,H,I,r,h⟩ hd
theorem yV {x:Str} {v:V} {u:Value} {pos:Pos} (hg:Gl X x) (hm:X.mg x=none) (hv:bootBuiltins x=some u) (r:RelV v u) (hn:x≠"__name__":=by decide) (hd:(x == ("__debug__":Str))=false:=by decide):PE X (.Name x pos) (tC v) :=
 fun _ _ _ H _ I h=>qv I hg hm hv ⟨v,H,I,r,h⟩ hn hd
variable {a b:Expr} {ta tb:TE} {pos:Pos}
def PC (X:Cx) (op:CmpOp) (a b:Expr) (t:TE):Prop :=
 ∀ (pins:List (Addr × Obj)) (s:Shared) (σ:St) (H:Hp) (Q:VK),Inv X pins σ H s->t σ H Q ->
   wpAny (model X.prog X.w) X.A (eval a X.env) (fun v s₁=>wpAny (model X.prog X.w) X.A (eval b X.env) (fun u s₂=>wpAny (model X.prog X.w) X.A (compareOp op v u) (EP X pins σ Q) X.xe s₂) X.xe s₁) X.xe s
theorem Gm (b:Expr) {op:CmpOp} (h:op≠.In) (h2:op≠.NotIn):behindInMarks op b=false:=by
 have e1:(op == CmpOp.In)=false:=by cases op <;> first|rfl|exact absurd rfl h
 have e2:(op == CmpOp.NotIn)=false:=by cases op <;> first|rfl|exact absurd rfl h2
 cases b <;> simp [behindInMarks,e1,e2]
def Qs (ta:TE):TE:=fun σ H Q=>ta σ H fun x H1=>Q (.bl (decide (x=.non))) H1
def RP (ta:TE):TE:=fun σ H Q=>ta σ H fun x H1=>Q (.bl (!decide (x=.non))) H1
theorem RelV.none_iff {x:V} {v:Value} (r:RelV x v):(v == Value.none)=decide (x=.non):=by
 cases x with
 | non=>cases r;rfl
 | bl _=>cases r;rfl
 | int _=>obtain ⟨t,rfl⟩:=r;rfl
 | str _=>obtain ⟨t,rfl⟩:=r;rfl
 | byt _=>obtain ⟨t,rfl⟩:=r;rfl
 | flt _=>obtain ⟨t,rfl⟩:=r;rfl
 | ref _=>cases r;rfl
 | ty _=>cases r;rfl
theorem NF {j pos'} (ha:PE X a ta):PC X .Is a (.Constant .none j pos') (Qs ta):=by
 intro pins s σ H Q I h;refine bn (ha pins s σ H _ I h) fun v s1 x H1 I1 r1 q1=>?_;exact Constant_none (is_none_gen ⟨.bl _,H1,I1,by rw [r1.none_iff];rfl,q1⟩)
def tB (t:TE):TT:=fun σ H Q=>t σ H fun x H1=>∃ c,x=.bl c/\Q c H1
theorem TX {op:CmpOp} {t:TE} (h:PC X op a b t) (h1:behindInMarks op b=false:=by first|exact Gm _ (by decide) (by decide)|rfl):PE X (.Compare a [op] [b] pos) t:=fun pins s σ H Q I hw=>wpAny_Compare1 (h pins s σ H Q I hw) h1
theorem OU {op:CmpOp} {t:TE} (h:PC X op a b t) (h1:behindInMarks op b=false:=by first|exact Gm _ (by decide) (by decide)|rfl):PT X (.Compare a [op] [b] pos) (tB t):=by
 intro pins s σ H Q I hw;refine wpAny_isTrue_Compare1 (thn (h pins s σ H _ I hw) fun v s1 h1=>thn h1 fun u s2 h2=>thn h2 fun c s3 ⟨x,H1,I1,r1,q1⟩=>?_) h1;obtain ⟨d,rfl,q⟩:=q1;cases r1;exact wpAny_truthy_bool ⟨H1,I1,q⟩
theorem gh {e:Expr} {t:TE} (h:PE X e t) (he:∀ whole,isTrue e X.env whole=(do let v <- whole;standAt e.pos;holding [v] (truthy v)):=by intro _;rfl):PT X e (tB t):=by
 intro pins s σ H Q I hw;refine isTrue_plain (bn (h pins s σ H _ I hw) fun v s1 x H1 I1 r1 q1=>?_) (he _);obtain ⟨d,rfl,q⟩:=q1;cases r1;exact wpAny_truthy_bool ⟨H1,I1,q⟩
variable {tA tB':TT} {cL:List Expr}
def Qy (t u:TT):TT:=fun σ H Q=>t σ H fun c H1=>if c=true then u σ H1 Q else Q false H1
def tOr (t u:TT):TT:=fun σ H Q=>t σ H fun c H1=>if c=true then Q true H1 else u σ H1 Q
def Qq (t:TT):TT:=fun σ H Q=>t σ H fun c H1=>Q (!c) H1
theorem jw (ha:PT X a tA):PW X (.BoolOp .And [a] pos) tA:=by
 intro wh pins s σ H Q I h;refine isTrue_and (thn (ha pins s σ H Q I h) fun c s1 e=>?_);cases c with
 | true=>exact isTrue_and_nil e
 | false=>exact e
theorem ni (ha:PT X a tA):PW X (.BoolOp .Or [a] pos) tA:=by
 intro wh pins s σ H Q I h;refine isTrue_or (thn (ha pins s σ H Q I h) fun c s1 e=>?_);cases c with
 | false=>exact isTrue_or_nil e
 | true=>exact e
theorem lF (ha:PT X a tA) (hb:PW X (.BoolOp .And (b::cL) pos) tB'):PW X (.BoolOp .And (a::b::cL) pos) (Qy tA tB'):=by
 intro wh pins s σ H Q I h;refine isTrue_and (EX (ha pins s σ H _ I h) fun c s1 H1 I1 q1=>?_);cases c with
 | true=>exact hb wh pins s1 σ H1 Q I1 q1
 | false=>exact ⟨H1,I1,q1⟩
theorem oX (ha:PT X a tA) (hb:PW X (.BoolOp .Or (b::cL) pos) tB'):PW X (.BoolOp .Or (a::b::cL) pos) (tOr tA tB'):=by
 intro wh pins s σ H Q I h;refine isTrue_or (EX (ha pins s σ H _ I h) fun c s1 H1 I1 q1=>?_);cases c with
 | true=>exact ⟨H1,I1,q1⟩
 | false=>exact hb wh pins s1 σ H1 Q I1 q1
theorem gn (ha:PT X a tA):PT X (.UnaryOp .Not a pos) (Qq tA):=by
 intro pins s σ H Q I h;exact isTrue_not (ha pins s σ H (fun c H1=>Q (!c) H1) I h)
def Kg (ta tb:TE):TE:=fun σ H Q=>ta σ H fun x H1=>∃ c,x=.bl c/\if c=true then tb σ H1 Q else Q (.bl false) H1
def TU (ta tb:TE):TE:=fun σ H Q=>ta σ H fun x H1=>∃ c,x=.bl c/\if c=true then Q (.bl true) H1 else tb σ H1 Q
def Ln (ta:TE):TE:=fun σ H Q=>ta σ H fun x H1=>∃ c,x=.bl c/\Q (.bl (!c)) H1
theorem BG {op} {t:TE} (h:PE X a t):PE X (.BoolOp op [a] pos) t:=fun pins s σ H Q I hw=>BoolOp_one (h pins s σ H Q I hw)
theorem xh (ha:PE X a ta) (hb:PE X (.BoolOp .And (b::cL) pos) tb):PE X (.BoolOp .And (a::b::cL) pos) (Kg ta tb):=by
 intro pins s σ H Q I h;refine BoolOp_and (bn (ha pins s σ H _ I h) fun v s1 x H1 I1 r1 q1=>?_);obtain ⟨c,rfl,q1⟩:=q1;cases r1;refine wpAny_truthy_bool ?_;cases c with
 | true=>exact hb pins s1 σ H1 Q I1 q1
 | false=>exact ⟨.bl false,H1,I1,rfl,q1⟩
theorem Th (ha:PE X a ta):PE X (.UnaryOp .Not a pos) (Ln ta):=by
 intro pins s σ H Q I h;refine UnaryOp_ (bn (ha pins s σ H _ I h) fun v s1 x H1 I1 r1 q1=>?_);obtain ⟨c,rfl,q1⟩:=q1;cases r1;exact not_of (wpAny_truthy_bool ⟨.bl (!c),H1,I1,rfl,q1⟩)
def tIf (t:TT) (ta tb:TE):TE:=fun σ H Q=>t σ H fun c H1=>if c=true then ta σ H1 Q else tb σ H1 Q
end
end L2
namespace L2
open PySem PySem.Spec PyProof.Rows
def SqL (K:PySem.W.Frag) (H:Hp) (a:Addr) (xs:List V):Prop :=
 Rd H a (.lst xs) \/
   ∃ (o:Obj) (its:Array Value) (n:Nat),K.lookup a=some o/\o.cls=.type "list"/\o.dict=none/\o.data=.seq its n/\its.size<=sizeLine/\Vals xs its.toList
def SqT (K:PySem.W.Frag) (H:Hp) (a:Addr) (xs:List V):Prop :=
 Rd H a (.tup xs) \/
   ∃ (o:Obj) (its:Array Value) (n:Nat),K.lookup a=some o/\o.cls=.type "tuple"/\o.data=.seq its n/\its.size<=sizeLine/\Vals xs its.toList
def UA:Value->Option V
 | .none=>some .non
 | .bool b=>some (.bl b)
 | .int i _=>some (.int i)
 | .str x _=>some (.str x)
 | .bytes b _=>some (.byt b)
 | .float b _=>some (.flt b)
 | .ref a=>some (.ref a)
 | .type n=>some (.ty n)
 | _=>none
theorem RelV.abs {x:V} {u:Value} (r:RelV x u):UA u=some x:=by
 cases x with
 | non=>cases r;rfl
 | bl _=>cases r;rfl
 | int _=>obtain ⟨t,rfl⟩:=r;rfl
 | str _=>obtain ⟨t,rfl⟩:=r;rfl
 | byt _=>obtain ⟨t,rfl⟩:=r;rfl
 | flt _=>obtain ⟨t,rfl⟩:=r;rfl
 | ref _=>cases r;rfl
 | ty _=>cases r;rfl
theorem RelV.inj {x y:V} {u:Value} (r:RelV x u) (q:RelV y u):x=y:=Option.some.inj (r.abs.symm.trans q.abs)
theorem Vals.inj {xs ys:List V} {us:List Value} (h:Vals xs us) (h2:Vals ys us):xs=ys:=by
 induction h generalizing ys with
 | nil=>cases h2;rfl
 | cons r _ ih=>cases h2 with|cons r2 t2=>rw [r.inj r2,ih t2]
section
variable {X:Cx} {pins:List (Addr × Obj)} {σ:St} {H:Hp} {s:Shared} {a:Addr} {xs ys:List V}
theorem SqL.of {K:PySem.W.Frag} (h:H a=some (.lst xs)):SqL K H a xs:=.inl (.inl h)
theorem SqT.of {K:PySem.W.Frag} (h:H a=some (.tup xs)):SqT K H a xs:=.inl (.inl h)
theorem Inv.list (I:Inv X pins σ H s) (h:SqL X.K H a xs):∃ its:List Value,Vals xs its/\PlainL s.heap a its.toArray/\xs.length<=sizeLine:=by
 rcases h with h|⟨o,its,n,hk,hc,hd,hs,hz,r⟩
 . obtain ⟨z,its,n,r,e⟩:=h.ok I.hok;exact ⟨its,r,⟨_,n,e,rfl,rfl,rfl⟩,z⟩
 . refine ⟨its.toList,r,⟨o,n,I.kIn a o hk,hc,hd,by simpa using hs⟩,?_⟩;have e:=r.length;simp only [Array.length_toList] at e;omega
theorem Inv.tuple (I:Inv X pins σ H s) (h:SqT X.K H a xs):∃ its:List Value,Vals xs its/\IsTup s.heap a its.toArray/\xs.length<=sizeLine:=by
 rcases h with h|⟨o,its,n,hk,hc,hs,hz,r⟩
 . obtain ⟨z,its,r,p⟩:=h.ok I.hok;exact ⟨its,r,p,z⟩
 . refine ⟨its.toList,r,⟨o,I.kIn a o hk,hc,n,by simpa using hs⟩,?_⟩;have e:=r.length;simp only [Array.length_toList] at e;omega
theorem Inv.list_inj (I:Inv X pins σ H s) (h:SqL X.K H a xs) (h':SqL X.K H a ys):xs=ys:=by
 obtain ⟨its,r,⟨o,n,e,_,_,d⟩,_⟩:=I.list h;obtain ⟨its',r',⟨o',n',e',_,_,d'⟩,_⟩:=I.list h';rw [e] at e';cases e';rw [d] at d';injection d' with d1 _
 have:its=its':=by simpa using congrArg Array.toList d1
 subst this;exact r.inj r'
theorem Inv.tuple_inj (I:Inv X pins σ H s) (h:SqT X.K H a xs) (h':SqT X.K H a ys):xs=ys:=by
 obtain ⟨its,r,⟨o,e,_,n,d⟩,_⟩:=I.tuple h;obtain ⟨its',r',⟨o',e',_,n',d'⟩,_⟩:=I.tuple h';rw [e] at e';cases e';rw [d] at d';injection d' with d1 _
 have:its=its':=by simpa using congrArg Array.toList d1
 subst this;exact r.inj r'
end
abbrev Cx.wish (X:Cx) (E:Value->Shared->Prop):Cx:={ X with xe:=E }
abbrev Cx.nox (X:Cx):Cx:=X.wish fun _ _=>False
theorem Cx.Ok.wish {X:Cx} (ok:X.Ok) (E:Value->Shared->Prop):(X.wish E).Ok :=
 ⟨ok.mod,ok.kind,ok.glob,ok.blt,ok.above,ok.inj,ok.has,ok.cab,ok.hd,ok.frames,ok.stk,ok.exf,ok.bs,ok.bsz,ok.noex,ok.exfs,ok.funs,ok.frf⟩
theorem Cx.Ok.unwish {X:Cx} {E:Value->Shared->Prop} (ok:(X.wish E).Ok):X.Ok :=
 ⟨ok.mod,ok.kind,ok.glob,ok.blt,ok.above,ok.inj,ok.has,ok.cab,ok.hd,ok.frames,ok.stk,ok.exf,ok.bs,ok.bsz,ok.noex,ok.exfs,ok.funs,ok.frf⟩
section
variable {X:Cx} {pins:List (Addr × Obj)} {σ:St} {H:Hp} {s:Shared} {E:Value->Shared->Prop}
theorem Inv.wish (I:Inv X pins σ H s) (E:Value->Shared->Prop):Inv (X.wish E) pins σ H s:=⟨I.ok.wish E,I.os,I.bare,I.base,I.loc,I.cell,I.free,I.freeC,I.pin,I.hok,I.len⟩
theorem Inv.unwish (I:Inv (X.wish E) pins σ H s):Inv X pins σ H s:=⟨I.ok.unwish,I.os,I.bare,I.base,I.loc,I.cell,I.free,I.freeC,I.pin,I.hok,I.len⟩
theorem SP.unwish {D:Ends} {f:Flow} {s':Shared} (h:SP (X.wish E) pins D f s'):SP X pins D f s':=by
 cases f with
 | next=>obtain ⟨σ',H',I,q⟩:=h;exact ⟨σ',H',I.unwish,q⟩
 | brk=>obtain ⟨σ',H',I,q⟩:=h;exact ⟨σ',H',I.unwish,q⟩
 | cont=>obtain ⟨σ',H',I,q⟩:=h;exact ⟨σ',H',I.unwish,q⟩
 | ret u=>obtain ⟨v,σ',H',I,r,q⟩:=h;exact ⟨v,σ',H',I.unwish,r,q⟩
theorem PSs.nox {st:List Stmt} {t:TS} (h:PSs X.nox st t):PSs X st t:=fun pins s σ H D I hw =>
 wpAny_mono (h pins s σ H D (I.wish _) hw) (fun _ _ q=>q.unwish) fun _ _ z=>False.elim z
end
section
variable {X:Cx} {st:Stmt} {cL:List Stmt} {t u:TS} {e:Expr} {te:TE} {pos:Pos}
def tNext:TS:=fun D σ H=>D.nx σ H
def MP (t u:TS):TS:=fun D σ H=>t { D with nx:=u D } σ H
theorem aB:PSs X [] tNext:=fun _ _ σ H _ I h=>wpAny_execs_nil ⟨σ,H,I,h⟩
theorem ak (h1:PS X st t) (h2:PSs X cL u):PSs X (st::cL) (MP t u):=by
 intro pins s σ H D I h;refine wpAny_execs_cons (thn (h1 pins s σ H { D with nx:=u D } I h) fun f s1 q=>?_);cases f with
 | next =>
   obtain ⟨σ',H',I',q⟩:=q;exact h2 pins s1 σ' H' D I' q
 | ret v=>exact q
 | brk=>exact q
 | cont=>exact q
theorem al (h1:PS X st t):PSs X [st] t:=by
 intro pins s σ H D I h;refine wpAny_execs_cons (thn (h1 pins s σ H D I h) fun f s1 q=>?_);cases f with
 | next=>exact wpAny_execs_nil q
 | ret v=>exact q
 | brk=>exact q
 | cont=>exact q
theorem Inv.quiet {pins:List (Addr × Obj)} {σ:St} {H:Hp} {s:Shared} (I:Inv X pins σ H s):interactive X.env=false:=by simp [interactive,I.ok.kind]
def Me (te:TE):TS:=fun D σ H=>te σ H fun _ H1=>D.nx σ H1
theorem bP (he:PE X e te) (hs:swapsWith e none pos.line X.env=pure false:=by rfl):PS X (.Expr e pos) (Me te):=by
 intro pins s σ H D I h;exact wpAny_Expr_any (bn (he pins s σ H _ I h) fun v s1 x H1 I1 r1 q1=>⟨σ,H1,I1,q1⟩) I.quiet hs
def P1 (te:TE):TS:=fun D σ H=>te σ H D.rt
theorem aF (he:PE X e te):PS X (.Return (some e) pos) (P1 te):=by
 intro pins s σ H D I h;exact wpAny_Return_some (bn (he pins s σ H _ I h) fun v s1 x H1 I1 r1 q1=>⟨x,σ,H1,I1,r1,q1⟩)
def RR:TS:=fun D _ H=>D.rt .non H
def Q4 (c:TT) (t u:TS):TS:=fun D σ H=>c σ H fun b H1=>if b=true then t D σ H1 else u D σ H1
theorem aR {c:Expr} {a b:List Stmt} {tc:TT} (hc:PT X c tc) (ha:PSs X a t) (hb:PSs X b u):PS X (.If c a b pos) (Q4 tc t u):=by
 intro pins s σ H D I h;refine wpAny_If (EX (hc pins s σ H _ I h) fun d s1 H1 I1 q1=>?_);cases d with
 | true=>exact ha pins s1 σ H1 D I1 q1
 | false=>exact hb pins s1 σ H1 D I1 q1
def tNever:TS:=fun _ _ _=>False
theorem mw:PS X st tNever:=fun _ _ _ _ _ _ h=>h.elim
end
abbrev TG:=V->St->Hp->(St->Hp->Prop)->Prop
abbrev TGs:=List V->St->Hp->(St->Hp->Prop)->Prop
def PG (X:Cx) (target:Expr) (t:TG):Prop :=
 ∀ (pins:List (Addr × Obj)) (s:Shared) (σ:St) (H:Hp) (v:V) (u:Value) (Q:St->Hp->Prop),Inv X pins σ H s->RelV v u->t v σ H Q ->
   wpAny (model X.prog X.w) X.A (assign target X.env u) (fun _ s'=>∃ σ' H',Inv X pins σ' H' s'/\Q σ' H') X.xe s
def PGs (X:Cx) (ts:List Expr) (t:TGs):Prop :=
 ∀ (pins:List (Addr × Obj)) (s:Shared) (σ:St) (H:Hp) (vs:List V) (us:List Value) (Q:St->Hp->Prop),Inv X pins σ H s->Vals vs us->t vs σ H Q ->
   wpAny (model X.prog X.w) X.A (assignInOrder ((assignEach ts X.env).map (·.2)) us) (fun _ s'=>∃ σ' H',Inv X pins σ' H' s'/\Q σ' H') X.xe s
abbrev Fh:=V->V->V->Hp->(Hp->Prop)->Prop
def Qe (X:Cx) (t:Fh):Prop :=
 ∀ (pins:List (Addr × Obj)) (s:Shared) (σ:St) (H:Hp) (o i v:V) (ov iv u:Value) (Q:Hp->Prop),Inv X pins σ H s->RelV o ov->RelV i iv->RelV v u->t o i v H Q ->
   wpAny (model X.prog X.w) X.A (setItem ov iv u) (fun _ s'=>∃ H',Inv X pins σ H' s'/\Q H') X.xe s
abbrev TIp:=V->V->Hp->VK->Prop
def PIp (X:Cx) (op:Operator) (t:TIp):Prop :=
 ∀ (pins:List (Addr × Obj)) (s:Shared) (σ:St) (H:Hp) (x y:V) (v u:Value) (Q:VK),Inv X pins σ H s->RelV x v->RelV y u->t x y H Q ->
   wpAny (model X.prog X.w) X.A (inplaceOp op v u) (EP X pins σ Q) X.xe s
section
variable {X:Cx} {pos:Pos}
def EF (i:Nat):TG:=fun v σ H Q=>Q (σ.set i (some v)) H
theorem aP {i:Nat} {x:Str} (hN:X.N.Nodup) (hi:X.N[i]?=some x) (hx:Loc X.env.scope x) (hf:X.fn x=true\/X.env.scope.names.lookup x=some .local:=by first|exact .inl rfl|exact .inr rfl|assumption):PG X (.Name x pos) (EF i):=by
 intro pins s σ H v u Q I r h;exact wpAny_assign_Name (mz I hN hi hx r (fun s' I'=>⟨_,H,I',h⟩) hf)
def gNil:TGs:=fun vs σ H Q=>vs=[]/\Q σ H
def K1 (t:TG) (u:TGs):TGs:=fun vs σ H Q=>∃ v r,vs=v::r/\t v σ H fun σ' H'=>u r σ' H' Q
theorem hG:PGs X [] gNil:=by
 intro pins s σ H vs us Q I r h;obtain ⟨e,h⟩:=h;subst e;cases r;exact assignInOrder_nil ⟨σ,H,I,h⟩
theorem aZ {e:Expr} {es:List Expr} {t:TG} {u:TGs} (h1:PG X e t) (h2:PGs X es u)
   (hs:(assignEach (e::es) X.env).map (·.2)=assign e X.env::(assignEach es X.env).map (·.2):=by rfl):PGs X (e::es) (K1 t u):=by
 intro pins s σ H vs us Q I r h;obtain ⟨v,vr,e1,h⟩:=h;subst e1;cases r with
 | cons r rr =>
   rw [hs];refine assignInOrder_cons (thn (h1 pins s σ H _ _ _ I r h) fun _ s1 ⟨σ1,H1,I1,q1⟩=>?_);exact h2 pins s1 σ1 H1 _ _ Q I1 rr q1
def J5 (K:PySem.W.Frag) (n:Nat) (t:TGs):TG:=fun v σ H Q=>∃ a xs,v=.ref a/\SqT K H a xs/\xs.length=n/\t xs σ H Q
theorem jW {es:List Expr} {k:Nat} {t:TGs} {n:Nat} (hc:X.calm=true) (h:PGs X es t)
   (hn:(assignEach es X.env).length=n:=by rfl) (hst:(assignEach es X.env).findIdx? (·.1)=none:=by rfl):PG X (.Tuple es k pos) (J5 X.K n t):=by
 intro pins s σ H v u Q I r hw;obtain ⟨a,xs,e1,hq,hl,hw⟩:=hw;subst e1;cases r;obtain ⟨its,rv,ht,hz⟩:=I.tuple hq;refine assign_Tuple_tuple (I.ok.hd hc) ht (by simp [hn,<- hl,rv.length]) hst fun h' hx=>?_;have I1:Inv X pins σ H { s with heap:=h' }:=I.kept (t':=s.toks) fun b o e=>hx b o (Nat.ne_of_lt (Heap.lt_size e)) e;exact h pins _ σ H xs _ Q I1 (by simpa using rv) hw
def Qa (to ti:TE) (t:Fh):TG:=fun v σ H Q=>to σ H fun o H1=>ti σ H1 fun i H2=>t o i v H2 fun H3=>Q σ H3
theorem xQ {o i:Expr} {to ti:TE} {t:Fh} (ho:PE X o to) (hi:PE X i ti) (hs:Qe X t)
   (ha:∀ v,assign (.Subscript o i pos) X.env v=(do
     let ov <- holding [v] (eval o X.env)
     let iv <- holding [v,ov] (eval i X.env)
     standAt pos
     holding [v,ov,iv] (setItem ov iv v)
     release [v,ov,iv] []):=by intro _;rfl):PG X (.Subscript o i pos) (Qa to ti t):=by
 intro pins s σ H v u Q I r h;rw [ha];refine wpAny_bind (wpAny_holding (bn (ho pins s σ H _ I h) fun ov s1 x H1 I1 r1 q1=>?_));refine wpAny_bind (wpAny_holding (bn (hi pins s1 σ H1 _ I1 q1) fun iv s2 y H2 I2 r2 q2=>?_));refine wpAny_bind (wpAny_standAt (wpAny_bind (wpAny_holding (thn (hs pins s2 σ H2 x y v ov iv u _ I2 r1 r2 r q2) fun _ s3 ⟨H3,I3,q3⟩=>?_))));exact wpAny_release ⟨σ,H3,I3,q3⟩
def Lp (te:TE) (g:TG):TS:=fun D σ H=>te σ H fun x H1=>g x σ H1 D.nx
theorem iL {tg e:Expr} {te:TE} {g:TG} (he:PE X e te) (hg:PG X tg g) (hs:swapsWithSole [tg] e pos.line X.env=pure false:=by rfl) (hw:swappedStores [tg] e X.env=pure none:=by rfl)
   (h1:(assignEach [tg] X.env).map (·.2)=[assign tg X.env]:=by rfl):PS X (.Assign [tg] e pos) (Lp te g):=by
 intro pins s σ H D I h;refine wpAny_Assign_stores (bn (he pins s σ H _ I h) fun v s1 x H1 I1 r1 q1=>?_) hs hw;rw [h1];exact thn (hg pins s1 σ H1 x v _ I1 r1 q1) fun _ s2 q=>q
theorem aJ {i:Nat} {x:Str} {e:Expr} {te:TE} {pos':Pos} (hN:X.N.Nodup) (hi:X.N[i]?=some x) (hx:Loc X.env.scope x) (he:PE X e te) (hs:swapsWith e (some (.Name x pos')) pos.line X.env=pure false:=by rfl) (hf:X.fn x=true\/X.env.scope.names.lookup x=some .local:=by first|exact .inl rfl|exact .inr rfl|assumption) :
   PS X (.Assign [.Name x pos'] e pos) (Lp te (EF i)):=by
 intro pins s σ H D I h;refine wpAny_Assign_Name (bn (he pins s σ H _ I h) fun v s1 y H1 I1 r1 q1=>?_) hs;exact mz I1 hN hi hx r1 (fun s2 I2=>⟨_,H1,I2,q1⟩) hf
def T4 (i:Nat) (te:TE) (ti:TIp):TS:=fun D σ H=>∃ x,σ[i]?=some (some x)/\te σ H fun y H1=>ti x y H1 fun z H2=>D.nx (σ.set i (some z)) H2
def LY (to ti te:TE) (tget:V->V->Hp->VK->Prop) (tip:TIp) (tset:Fh):TS:=fun D σ H=>to σ H fun o H1=>ti σ H1 fun i H2=>tget o i H2 fun x H3=>te σ H3 fun y H4=>tip x y H4 fun z H5=>tset o i z H5 fun H6=>D.nx σ H6
def Tr (X:Cx) (t:V->V->Hp->VK->Prop):Prop :=
 ∀ (pins:List (Addr × Obj)) (s:Shared) (σ:St) (H:Hp) (o i:V) (ov iv:Value) (Q:VK),Inv X pins σ H s->RelV o ov->RelV i iv->t o i H Q ->
   wpAny (model X.prog X.w) X.A (getItem ov iv) (EP X pins σ Q) X.xe s
theorem C4 {o i e:Expr} {to ti te:TE} {tget:V->V->Hp->VK->Prop} {tip:TIp} {tset:Fh} {op:Operator} {tpos:Pos} (ho:PE X o to) (hi:PE X i ti) (hg:Tr X tget) (he:PE X e te) (hp:PIp X op tip) (hs:Qe X tset)
   (ha:∀ ov iv new,augStore i ov iv new=(do holding [new,ov,iv] (setItem ov iv new);release [new,ov,iv] [];pure .next):=by intros;rfl):PS X (.AugAssign (.Subscript o i tpos) op e pos) (LY to ti te tget tip tset):=by
 intro pins s σ H D I h;refine wpAny_AugAssign_SubscriptAny (bn (ho pins s σ H _ I h) fun ov s1 x1 H1 I1 r1 q1=>?_) ha;refine bn (hi pins s1 σ H1 _ I1 q1) fun iv s2 x2 H2 I2 r2 q2=>?_;refine thn (hg pins s2 σ H2 x1 x2 ov iv _ I2 r1 r2 q2) fun old s3 ⟨x3,H3,I3,r3,q3⟩=>?_;refine bn (he pins s3 σ H3 _ I3 q3) fun v s4 x4 H4 I4 r4 q4=>?_;refine thn (hp pins s4 σ H4 x3 x4 old v _ I4 r3 r4 q4) fun new s5 ⟨x5,H5,I5,r5,q5⟩=>?_;exact thn (hs pins s5 σ H5 x1 x2 x5 ov iv new _ I5 r1 r2 r5 q5) fun _ s6 ⟨H6,I6,q6⟩=>⟨σ,H6,I6,q6⟩
def ipI (f:Int->Int->Int):TIp:=fun x y H Q=>∃ i j,x=.int i/\y=.int j/\Q (.int (f i j)) H
theorem Od:PIp X .Add (ipI fun i j=>i+j):=by
 intro pins s σ H x y v u Q I r1 r2 h;obtain ⟨i,j,e1,e2,q⟩:=h;subst e1;subst e2;obtain ⟨t,rfl⟩:=r1;obtain ⟨t',rfl⟩:=r2;exact iadd_int ⟨.int _,H,I.tok _,⟨_,rfl⟩,q⟩
theorem Tv:PIp X .Sub (ipI fun i j=>i - j):=by
 intro pins s σ H x y v u Q I r1 r2 h;obtain ⟨i,j,e1,e2,q⟩:=h;subst e1;subst e2;obtain ⟨t,rfl⟩:=r1;obtain ⟨t',rfl⟩:=r2;exact isub_int ⟨.int _,H,I.tok _,⟨_,rfl⟩,q⟩
end
section
variable {X:Cx} {pos:Pos}
def NT (c:TT) (tb:TS):TS:=fun D σ H=>∃ W:Nat->St->Hp->Prop,(∃ m,W m σ H)/\∀ m σ H,W m σ H ->
 c σ H fun b H1=>if b=true then ∃ N:St->Hp->Prop,(∀ σ' H',N σ' H'->∃ m',m'<m/\W m' σ' H')/\tb { D with nx:=N,ct:=N,bk:=D.nx } σ H1 else D.nx σ H1
theorem O0 {c:Expr} {body:List Stmt} {tc:TT} {tb:TS} (hp:PassesOwn (model X.prog X.w) X.A X.env X.xe) (hc:PT X c tc) (hb:PSs X body tb):PS X (.While c body [] pos) (NT tc tb):=by
 intro pins s σ H D I h;obtain ⟨W,⟨m0,w0⟩,turn⟩:=h;refine wpAny_While (codeAny_whileLoop (fun n s'=>∃ σ' H',Inv X pins σ' H' s'/\W n σ' H') ?_ m0 ⟨σ,H,I,w0⟩);rintro n s1 ⟨σ1,H1,I1,w1⟩;refine wpAny_passesOwn hp (EX (hc pins s1 σ1 H1 _ I1 (turn n σ1 H1 w1)) fun b s2 H2 I2 q2=>?_);cases b with
 | true =>
   obtain ⟨N,hN,q2⟩:=q2;rw [if_pos rfl];refine wpAny_passesOwn hp (thn (hb pins s2 σ1 H2 _ I2 q2) fun f s3 q3=>?_);cases f with
   | next =>
     obtain ⟨σ3,H3,I3,n3⟩:=q3;obtain ⟨m',hm,w3⟩:=hN σ3 H3 n3;exact ⟨m',hm,σ3,H3,I3,w3⟩
   | cont =>
     obtain ⟨σ3,H3,I3,n3⟩:=q3;obtain ⟨m',hm,w3⟩:=hN σ3 H3 n3;exact ⟨m',hm,σ3,H3,I3,w3⟩
   | brk=>exact q3
   | ret v=>exact q3
 | false =>
   rw [if_neg Bool.false_ne_true];exact wpAny_execs_nil ⟨σ1,H2,I2,q2⟩
end
structure It where
 go:Nat->Hp->Prop
 yld:Nat->Hp->V->Hp->Prop
 stop:Nat->Hp->Prop
def lA (X:Cx) (pins:List (Addr × Obj)) (H:Hp) (b:Addr):Prop :=
 H b=none/\b≠X.env.locals/\b ∉ X.fs/\(b∈X.ex\/X.s₀.heap.objs.size<=b)/\(∀ x c,X.env.cells.lookup x=some c->c≠b)/\∀ p∈X.pn++pins,p.1≠b
theorem Inv.fpOk {X:Cx} {pins:List (Addr × Obj)} {σ:St} {H H':Hp} {s:Shared} {b:Addr} (I:Inv X pins σ H s) (hb:s.heap.objs.size<=b) (hn:H' b=none):lA X pins H' b:=by
 refine ⟨hn,Nat.ne_of_gt (Nat.lt_of_lt_of_le I.lt hb),I.nofs hb,.inr (Nat.le_trans I.sz hb),fun x c e z=>?_,fun p hp z=>?_⟩
 . obtain ⟨v,q⟩:=I.cell x c e;exact absurd (Nat.lt_of_lt_of_le q.lt (by rw [z];exact hb)) (Nat.lt_irrefl _)
 . exact absurd (Nat.lt_of_lt_of_le (Heap.lt_size (I.pin p hp).1) (by rw [z];exact hb)) (Nat.lt_irrefl _)
structure Turn (P:Program) (w:World) (K:PySem.W.Frag) (tg:Expr) (J:It) (fp:List Addr) (it:Addr) (tn:Nat->Heap->Prop):Prop where
 mem:it∈fp
 obj:∀ i h,tn i h->∀ b∈fp,∃ o,h.get? b=some o/\∀ v,o.data≠.cell v
 keep:∀ i h h',tn i h->(∀ b∈fp,∀ o,h.get? b=some o->h'.get? b=some o)->tn i h'
 item:∀ (X:Cx),X.prog=P->X.w=w->X.K=K->X.calm=true->∀ (i:Nat) (pins:List (Addr × Obj)) (s:Shared) (σ:St) (H:Hp) (E:Value->Shared->Prop),Inv X pins σ H s->(∀ b∈fp,lA X pins H b)->tn i s.heap->J.go i H ->
   wpAny (model P w) X.A (pyNext (.ref it)) (fun r s1=>∃ u,r=some u /\
     wpAny (model P w) X.A (letOwnedTupleGo tg (.ref it) u) (fun _ s2=>∃ x H',Inv X pins σ H' s2/\RelV x u/\J.yld i H x H'/\tn (i+1) s2.heap/\∀ b∈fp,H' b=none) E s1) E s
 done:∀ (X:Cx),X.prog=P->X.w=w->X.K=K->X.calm=true->∀ (i:Nat) (pins:List (Addr × Obj)) (s:Shared) (σ:St) (H:Hp) (E:Value->Shared->Prop),Inv X pins σ H s->(∀ b∈fp,lA X pins H b)->tn i s.heap->J.stop i H ->
   wpAny (model P w) X.A (pyNext (.ref it)) (fun r s1=>r=none/\Inv X pins σ H s1) E s
 self:∀ (A:Around) (i:Nat) (s:Shared) (Q:Value->Shared->Prop) (E:Value->Shared->Prop),tn i s.heap->Q (.ref it) s->wpAny (model P w) A (pyIter (.ref it)) Q E s
abbrev TI:=St->Hp->(It->Hp->Prop)->Prop
def PIE (X:Cx) (pins:List (Addr × Obj)) (σ:St) (tg:Expr) (R:It->Hp->Prop) (itv:Value) (s2:Shared):Prop :=
 ∃ (it:Addr) (fp:List Addr) (tn:Nat->Heap->Prop) (J:It) (H':Hp),itv=.ref it/\Inv X pins σ H' s2/\Turn X.prog X.w X.K tg J fp it tn/\tn 0 s2.heap/\(∀ b∈fp,lA X pins H' b)/\R J H'
def PI (X:Cx) (tg iter:Expr) (wi:TI):Prop :=
 ∀ (pins:List (Addr × Obj)) (s:Shared) (σ:St) (H:Hp) (R:It->Hp->Prop),Inv X pins σ H s->wi σ H R ->
   wpAny (model X.prog X.w) X.A (eval iter X.env) (fun v s1=>wpAny (model X.prog X.w) X.A (pyIter v) (PIE X pins σ tg R) X.xe s1) X.xe s
theorem Mj {M:Model} {A:Around} {E:Value->Shared->Prop} {s:Shared} {tg:Expr} {it:Addr} {u:Value} {o:Obj} {n:String} {vs:Array Value} {Q:Unit->Shared->Prop} (ho:s.heap.get? it=some o) (hc:o.cls=.type n) (hd:o.data=.fields vs)
   (hn:["enumerate","zip","dict_itemiterator","dict_reverseitemiterator","odict_iterator","itertools.zip_longest","itertools.pairwise"].contains n=false) (hQ:Q () s):wpAny M A (letOwnedTupleGo tg (.ref it) u) Q E s:=by
 unfold letOwnedTupleGo;cases tg <;> first
   | exact wpAny_pure hQ
   | (cases u <;> first
       | exact wpAny_pure hQ
       | (refine wpAny_bind (wpAny_load ho ?_)
          rw [hc,hd];show wpAny M A (if (["enumerate","zip","dict_itemiterator","dict_reverseitemiterator","odict_iterator","itertools.zip_longest","itertools.pairwise"].contains n && vs[0]? == some (rawInt _))=true then _ else _) Q E s;rw [if_neg (by intro h;rw [hn,Bool.false_and] at h;cases h)];exact wpAny_pure hQ))
def Itl (K:PySem.W.Frag) (a:Addr):It :=
 ⟨fun i H=>∃ xs x,SqL K H a xs/\xs[i]?=some x,fun i H x H'=>H'=H/\∀ xs,SqL K H a xs->xs[i]?=some x,fun i H=>∃ xs,SqL K H a xs/\xs.length<=i⟩
def Itt (K:PySem.W.Frag) (a:Addr):It :=
 ⟨fun i H=>∃ xs x,SqT K H a xs/\xs[i]?=some x,fun i H x H'=>H'=H/\∀ xs,SqT K H a xs->xs[i]?=some x,fun i H=>∃ xs,SqT K H a xs/\xs.length<=i⟩
def Itr (lo:Int) (n:Nat):It:=⟨fun i _=>i<n,fun i H x H'=>H'=H/\x=.int (lo+i),fun i _=>n<=i⟩
theorem Ob {P:Program} {w:World} {K:PySem.W.Frag} {tg:Expr} (a it:Addr):Turn P w K tg (Itl K a) [it] it (fun i h=>h.IsListIter it a i) where
 mem:=by simp
 obj:=fun i h st b hb=>by
   have e:b=it:=by simpa using hb
   subst e;obtain ⟨o,e,c,d⟩:=st;exact ⟨o,e,fun v z=>by rw [d] at z;cases z⟩
 keep:=fun i h h' st k=>st.at fun o e=>k it (by simp) o e
 item:=by
   intro X hP hw hK hc i pins s σ H E I hf st hg;subst hP hw hK;obtain ⟨xs,x,hq,hx⟩:=hg;obtain ⟨its,rv,p,hz⟩:=I.list hq;obtain ⟨u,hu,ru⟩:=rv.get hx;obtain ⟨f0,f1,f2,f3,f4,f5⟩:=hf it (by simp);refine wpAny_pyNext_list_item st p.isList (x:=u) (by simpa using hu) fun h' st' sb=>?_;have I1:Inv X pins σ H { s with heap:=h' }:=I.turned (t':=s.toks) (fun b o hb e=>(sb.2 b hb).trans e) f0 f1 f3 f4 f5;obtain ⟨o,e,c,d⟩:=id st';exact ⟨u,rfl,Mj (s:={ s with heap:=h' }) e c d (by decide) ⟨x,H,I1,ru,⟨rfl,fun ys hy=>by rw [I.list_inj hy hq];exact hx⟩,st',fun b hb=>(hf b hb).1⟩⟩
 done:=by
   intro X hP hw hK hc i pins s σ H E I hf st hg;subst hP hw hK;obtain ⟨xs,hq,hx⟩:=hg;obtain ⟨its,rv,p,hz⟩:=I.list hq;obtain ⟨f0,f1,f2,f3,f4,f5⟩:=hf it (by simp);have hl:=rv.length;exact wpAny_pyNext_list_end (I.ok.hd hc) st p.isList (by simp;omega) fun h' eb=>⟨rfl,I.turned (t':=s.toks) (fun b o hb e=>eb b o hb e) f0 f1 f3 f4 f5⟩
 self:=fun _ _ _ _ _ st h=>wpAny_pyIter_listiter st h
theorem K5 {P:Program} {w:World} {K:PySem.W.Frag} {tg:Expr} (a it:Addr):Turn P w K tg (Itt K a) [it] it (fun i h=>h.IsTupleIter it a i) where
 mem:=by simp
 obj:=fun i h st b hb=>by
   have e:b=it:=by simpa using hb
   subst e;obtain ⟨o,e,c,d⟩:=st;exact ⟨o,e,fun v z=>by rw [d] at z;cases z⟩
 keep:=fun i h h' st k=>st.at fun o e=>k it (by simp) o e
 item:=by
   intro X hP hw hK hc i pins s σ H E I hf st hg;subst hP hw hK;obtain ⟨xs,x,hq,hx⟩:=hg;obtain ⟨its,rv,p,hz⟩:=I.tuple hq;obtain ⟨u,hu,ru⟩:=rv.get hx;obtain ⟨f0,f1,f2,f3,f4,f5⟩:=hf it (by simp);refine wpAny_pyNext_tuple_item st (show s.heap.IsTuple a its.toArray from p) (x:=u) (by simpa using hu) fun h' st' sb=>?_;have I1:Inv X pins σ H { s with heap:=h' }:=I.turned (t':=s.toks) (fun b o hb e=>(sb.2 b hb).trans e) f0 f1 f3 f4 f5;obtain ⟨o,e,c,d⟩:=id st';exact ⟨u,rfl,Mj (s:={ s with heap:=h' }) e c d (by decide) ⟨x,H,I1,ru,⟨rfl,fun ys hy=>by rw [I.tuple_inj hy hq];exact hx⟩,st',fun b hb=>(hf b hb).1⟩⟩
 done:=by
   intro X hP hw hK hc i pins s σ H E I hf st hg;subst hP hw hK;obtain ⟨xs,hq,hx⟩:=hg;obtain ⟨its,rv,p,hz⟩:=I.tuple hq;obtain ⟨f0,f1,f2,f3,f4,f5⟩:=hf it (by simp);have hl:=rv.length;exact wpAny_pyNext_tuple_end (I.ok.hd hc) st (show s.heap.IsTuple a its.toArray from p) (by simp;omega) fun h' eb=>⟨rfl,I.turned (t':=s.toks) (fun b o hb e=>eb b o hb e) f0 f1 f3 f4 f5⟩
 self:=fun _ _ _ _ _ st h=>wpAny_pyIter_tupleiter st h
theorem KM {P:Program} {w:World} {K:PySem.W.Frag} {tg:Expr} (it:Addr) (lo:Int) (n:Nat):Turn P w K tg (Itr lo n) [it] it (fun i h=>IsRangeIter h it (lo+(i:Nat)*1) ((n:Int) - (i:Nat)) 1) where
 mem:=by simp
 obj:=fun i h st b hb=>by
   have e:b=it:=by simpa using hb
   subst e;exact ⟨_,st,fun v z=>by
     have z':Data.fields _=Data.cell v:=z;cases z'⟩
 keep:=fun i h h' st k=>k it (by simp) _ st
 item:=by
   intro X hP hw hK hc i pins s σ H E I hf st hg;subst hP hw hK;obtain ⟨f0,f1,f2,f3,f4,f5⟩:=hf it (by simp);have W:=Walks.range (prog:=X.prog) (w:=X.w) (I.ok.hd hc) it lo 1 n;refine W.item i s _ _ hg st fun v h' tk hv st' kk=>?_;obtain ⟨t,rfl⟩:=hv;have I1:Inv X pins σ H { s with heap:=h',toks:=tk }:=I.turned (fun b o hb e=>kk b o (by simpa using hb) e) f0 f1 f3 f4 f5;refine ⟨_,rfl,Mj (s:={ s with heap:=h',toks:=tk }) (n:="range_iterator") st' rfl rfl (by decide) ⟨.int (lo+i),H,I1,⟨t,?_⟩,⟨rfl,rfl⟩,st',fun b hb=>(hf b hb).1⟩⟩;rw [Int.mul_one]
 done:=by
   intro X hP hw hK hc i pins s σ H E I hf st hg;subst hP hw hK;obtain ⟨f0,f1,f2,f3,f4,f5⟩:=hf it (by simp);exact wpAny_pyNext_range_end (I.ok.hd hc) st (by have:n<=i:=hg;omega) fun h' eb=>⟨rfl,I.turned (t':=s.toks) (fun b o hb e=>eb b o hb e) f0 f1 f3 f4 f5⟩
 self:=fun _ _ _ _ _ st h=>wpAny_pyIter_rangeiter st h
end L2
namespace L2
open PySem PySem.Spec PyProof.Rows
section
variable {X:Cx} {tg:Expr}
def JW (K:PySem.W.Frag) (tl:TE):TI:=fun σ H R=>tl σ H fun x H1=>∃ a,x=.ref a/\(∃ xs,SqL K H1 a xs)/\R (Itl K a) H1
def Pu (K:PySem.W.Frag) (tl:TE):TI:=fun σ H R=>tl σ H fun x H1=>∃ a,x=.ref a/\(∃ xs,SqT K H1 a xs)/\R (Itt K a) H1
theorem y4 {l:Expr} {tl:TE} (hl:PE X l tl):PI X tg l (JW X.K tl):=by
 intro pins s σ H R I h;refine bn (hl pins s σ H _ I h) fun v s1 x H1 I1 r1 q1=>?_;obtain ⟨a,e,⟨xs,hq⟩,q⟩:=q1;subst e;cases r1;obtain ⟨its,rv,p,hz⟩:=I1.list hq;refine wpAny_pyIter_list p.isList ?_;refine ⟨s1.heap.objs.size,[s1.heap.objs.size],_,_,H1,rfl,I1.kept (t':=s1.toks) fun b o e=>Heap.get?_push_of_some _ e,Ob a _,⟨_,Heap.get?_push_size _ rfl,rfl,rfl⟩,fun b hb=>?_,q⟩;have e:b=s1.heap.objs.size:=by simpa using hb
 subst e;exact I1.fpOk (Nat.le_refl _) (I1.hok.fresh (Nat.le_refl _))
theorem wI {l:Expr} {tl:TE} (hl:PE X l tl):PI X tg l (Pu X.K tl):=by
 intro pins s σ H R I h;refine bn (hl pins s σ H _ I h) fun v s1 x H1 I1 r1 q1=>?_;obtain ⟨a,e,⟨xs,hq⟩,q⟩:=q1;subst e;cases r1;obtain ⟨its,rv,p,hz⟩:=I1.tuple hq;refine wpAny_pyIter_tuple (show s1.heap.IsTuple a its.toArray from p) ?_;refine ⟨s1.heap.objs.size,[s1.heap.objs.size],_,_,H1,rfl,I1.kept (t':=s1.toks) fun b o e=>Heap.get?_push_of_some _ e,K5 a _,⟨_,Heap.get?_push_size _ rfl,rfl,rfl⟩,fun b hb=>?_,q⟩;have e:b=s1.heap.objs.size:=by simpa using hb
 subst e;exact I1.fpOk (Nat.le_refl _) (I1.hok.fresh (Nat.le_refl _))
theorem Gh {pins:List (Addr × Obj)} {σ:St} {H:Hp} {s:Shared} {R:It->Hp->Prop} {E:Value->Shared->Prop} {lo hi:Int} {t u v:Tok} {tk:Nat} (I:Inv X pins σ H s) (h1:-(2^62)<=lo) (h2:lo<2^62) (h3:-(2^62)<=hi) (h4:hi<2^62)
   (q:R (Itr lo (hi - lo).toNat) H):wpAny (model X.prog X.w) X.A (pyIter (.ref s.heap.objs.size)) (PIE X pins σ tg R) E { s with heap:=s.heap.push { cls:=.type "range",data:=.fields #[.int lo t,.int hi u,.int 1 v] },toks:=tk }:=by
 refine wpAny_pyIter_range (IsRange.new ..) (small_one h1 h2 h3 h4) ?_;have I1:Inv X pins σ H { s with heap:=s.heap.push { cls:=.type "range",data:=.fields #[.int lo t,.int hi u,.int 1 v] },toks:=tk }:=I.kept fun b o e=>Heap.get?_push_of_some _ e;refine ⟨(s.heap.push { cls:=.type "range",data:=.fields #[.int lo t,.int hi u,.int 1 v] }).objs.size,[(s.heap.push { cls:=.type "range",data:=.fields #[.int lo t,.int hi u,.int 1 v] }).objs.size],_,_,H,rfl,
   I1.kept (t':=tk) fun b o e=>Heap.get?_push_of_some _ e,KM _ lo (hi - lo).toNat,?_,fun b hb=>?_,q⟩
 . have e1:lo+((0:Nat):Int)*1=lo:=by simp
   have e2:(((hi - lo).toNat:Nat):Int) - ((0:Nat):Int)=Builtin.Range.rangeSize lo hi 1:=by rw [rangeSize_one];split <;> omega
   show IsRangeIter _ _ (lo+((0:Nat):Int)*1) ((((hi - lo).toNat:Nat):Int) - ((0:Nat):Int)) 1;rw [e1,e2];exact Heap.get?_push_size _ rfl
 . have e:b=(s.heap.push { cls:=.type "range",data:=.fields #[.int lo t,.int hi u,.int 1 v] }).objs.size:=by simpa using hb
   subst e;exact I1.fpOk (Nat.le_refl _) (I1.hok.fresh (Nat.le_refl _))
def Ke (ta:TA):TI:=fun σ H R=>ta σ H fun vs H1=>∃ j:Int,vs=[.int j]/\-(2^62)<=j/\j<2^62/\R (Itr 0 j.toNat) H1
def Ki (ta:TA):TI:=fun σ H R=>ta σ H fun vs H1=>∃ i j:Int,vs=[.int i,.int j]/\(-(2^62)<=i/\i<2^62/\-(2^62)<=j/\j<2^62)/\R (Itr i (j - i).toNat) H1
theorem DE {a:Expr} {ta:TA} {p pos:Pos} (hg:Gl X "range") (hm:X.mg "range"=none) (ha:PA X [a] ta) (hs:starEach [a] X.env=[(false,eval a X.env)]:=by rfl):PI X tg (.Call (.Name "range" p) [a] [] pos) (Ke ta):=by
 intro pins s σ H R I h;refine Call_ (qv I hg hm boot_range (PyProof.Rows.callWith_type1 (mS (ha pos pins s σ H _ I h) fun us s1 vs H1 I1 r1 q1=>?_) hs rfl));obtain ⟨j,e,q1,q2,q⟩:=q1;subst e;cases r1 with
 | cons r rr =>
   cases rr;obtain ⟨t,rfl⟩:=r;exact call_range_1 (Gh I1 (by omega) (by omega) q1 q2 (by simpa using q))
theorem ON {a b:Expr} {ta:TA} {p pos:Pos} (hg:Gl X "range") (hm:X.mg "range"=none) (ha:PA X [a,b] ta) (hs:starEach [a,b] X.env=[(false,eval a X.env),(false,eval b X.env)]:=by rfl) (hs2:starEach [b] X.env=[(false,eval b X.env)]:=by rfl) :
   PI X tg (.Call (.Name "range" p) [a,b] [] pos) (Ki ta):=by
 intro pins s σ H R I h;refine Call_ (qv I hg hm boot_range (PyProof.Rows.callWith_type1 (mS (ha pos pins s σ H _ I h) fun us s1 vs H1 I1 r1 q1=>?_) (by rw [hs,hs2]) (by rw [hs2];rfl)));obtain ⟨i,j,e,⟨q1,q2,q3,q4⟩,q⟩:=q1;subst e;cases r1 with
 | cons r rr =>
   cases rr with
   | cons r' rr =>
     cases rr;obtain ⟨t,rfl⟩:=r;obtain ⟨t',rfl⟩:=r';exact call_range_2 (Gh I1 q1 q2 q3 q4 q)
def Ue (wi:TI) (g:TG) (tb:TS):TS:=fun D σ H=>wi σ H fun J H1=>∃ W:Nat->Nat->St->Hp->Prop,(∃ m,W 0 m σ H1)/\∀ i m σ H,W i m σ H ->
 (J.stop i H/\D.nx σ H)\/(J.go i H/\∃ N:St->Hp->Prop,(∀ σ' H',N σ' H'->∃ m',m'<m/\W (i+1) m' σ' H')/\∀ x H',J.yld i H x H'->g x σ H' fun σ2 H2=>tb { D with nx:=N,ct:=N,bk:=D.nx } σ2 H2)
def yH (fp:List Addr) (h:Heap):List (Addr × Obj):=fp.filterMap fun b=>(h.get? b).map fun o=>(b,o)
theorem oM {fp:List Addr} {h:Heap} {b:Addr} {o:Obj} (hb:b∈fp) (e:h.get? b=some o):(b,o)∈yH fp h:=List.mem_filterMap.mpr ⟨b,hb,by rw [e];rfl⟩
theorem Oq {fp:List Addr} {h:Heap} {p:Addr × Obj} (hp:p∈yH fp h):p.1∈fp/\h.get? p.1=some p.2:=by
 obtain ⟨b,hb,e⟩:=List.mem_filterMap.mp hp;cases q:h.get? b with
 | none=>rw [q] at e;cases e
 | some o =>
   rw [q] at e;have e':(b,o)=p:=Option.some.inj e;subst e';exact ⟨hb,q⟩
theorem Inv.pinned {pins:List (Addr × Obj)} {σ:St} {H:Hp} {s:Shared} {fp:List Addr} (I:Inv X pins σ H s) (hf:∀ b∈fp,lA X pins H b) (ho:∀ b∈fp,∃ o,s.heap.get? b=some o/\∀ v,o.data≠.cell v):Inv X (pins++yH fp s.heap) σ H s :=
 I.pins_of fun p hp=>(List.mem_append.mp hp).elim (fun z=>I.pin p (List.mem_append_right _ z)) fun z=>by
   obtain ⟨hb,e⟩:=Oq z;obtain ⟨f0,f1,f2,_⟩:=hf p.1 hb;obtain ⟨o,e',d⟩:=ho p.1 hb;rw [e] at e';cases e';exact ⟨e,f0,f1,f2,d⟩
theorem Inv.unpinned {pins pl:List (Addr × Obj)} {σ:St} {H:Hp} {s:Shared} (I:Inv X (pins++pl) σ H s):Inv X pins σ H s:=I.pins_of fun p hp=>I.pin p (List.mem_append_right _ (List.mem_append_left _ hp))
theorem je {iter:Expr} {body:List Stmt} {wi:TI} {g:TG} {tb:TS} {pos:Pos} (hp:PassesOwn (model X.prog X.w) X.A X.env X.xe) (hc:X.calm=true) (hi:PI X tg iter wi) (hg:PG X tg g) (hb:PSs X body tb)
   (hs:∀ x,foldedSetIterable iter X.env x=pure x:=by intro _;rfl):PS X (.For tg iter body [] pos) (Ue wi g tb):=by
 intro pins s σ H D I h;refine wpAny_For (thn (hi pins s σ H _ I h) fun v s1 h1=>thn h1 fun itv s2 h2=>?_) hs;obtain ⟨it,fp,tn,J,H2,e,I2,T,st2,f2,W,⟨m0,w0⟩,turn⟩:=h2;subst e;have stat:∀ {H':Hp},(∀ b∈fp,H' b=none)->∀ b∈fp,lA X pins H' b:=fun hn b hb=>⟨hn b hb,(f2 b hb).2⟩;refine codeAny_forLoop_any (fun n s'=>∃ i σ' H',Inv X pins σ' H' s'/\tn i s'.heap/\(∀ b∈fp,H' b=none)/\W i n σ' H') ?_ m0 ⟨0,σ,H2,I2,st2,fun b hb=>(f2 b hb).1,w0⟩;rintro n s3 ⟨i,σ3,H3,I3,st3,fr3,w3⟩;rcases turn i n σ3 H3 w3 with ⟨stop,qn⟩|⟨go,N,hN,step⟩
 . refine wpAny_passesOwn hp (thn (T.done X rfl rfl rfl hc i pins s3 σ3 H3 X.xe I3 (stat fr3) st3 stop) fun r s4 ⟨hr,I4⟩=>?_);subst hr;exact wpAny_execs_nil ⟨σ3,H3,I4,qn⟩
 . refine wpAny_passesOwn hp (thn (T.item X rfl rfl rfl hc i pins s3 σ3 H3 X.xe I3 (stat fr3) st3 go) fun r s4 ⟨u,hr,h4⟩=>?_);subst hr;refine wpAny_passesOwn hp (thn h4 fun _ s5 ⟨x,H5,I5,r5,y5,st5,fr5⟩=>?_);have I5':=I5.pinned (stat fr5) (T.obj _ _ st5);refine wpAny_passesOwn hp (thn (hg _ s5 σ3 H5 x u _ I5' r5 (step x H5 y5)) fun _ s6 ⟨σ6,H6,I6,q6⟩=>?_);refine wpAny_passesOwn hp (thn (hb _ s6 σ6 H6 _ I6 q6) fun f s7 q7=>?_);have again:∀ {σ7:St} {H7:Hp},Inv X (pins++yH fp s5.heap) σ7 H7 s7->N σ7 H7->∃ m,m<n/\∃ i σ' H',Inv X pins σ' H' s7/\tn i s7.heap/\(∀ b∈fp,H' b=none)/\W i m σ' H':=fun {σ7 H7} I7 n7=>by
     obtain ⟨m',hm,w7⟩:=hN σ7 H7 n7;refine ⟨m',hm,i+1,σ7,H7,I7.unpinned,T.keep _ _ _ st5 fun b hb o e=>(I7.pin (b,o) (List.mem_append_right _ (List.mem_append_right _ (oM hb e)))).1,fun b hb=>?_,w7⟩;obtain ⟨o,e,d⟩:=T.obj _ _ st5 b hb;exact (I7.pin (b,o) (List.mem_append_right _ (List.mem_append_right _ (oM hb e)))).2.1
   cases f with
   | next=>obtain ⟨σ7,H7,I7,n7⟩:=q7;exact again I7 n7
   | cont=>obtain ⟨σ7,H7,I7,n7⟩:=q7;exact again I7 n7
   | brk=>obtain ⟨σ7,H7,I7,q7⟩:=q7;exact ⟨σ7,H7,I7.unpinned,q7⟩
   | ret v=>obtain ⟨x7,σ7,H7,I7,r7,q7⟩:=q7;exact ⟨x7,σ7,H7,I7.unpinned,r7,q7⟩
end
theorem QD {K:PySem.W.Frag} {a:Addr} {xs:List V} {g:TG} {tb:TS} {D:Ends} {σ:St} {H:Hp} (Pv:Nat->St->Hp->Prop) (h0:Pv 0 σ H) (hl:∀ i σ H,i<=xs.length->Pv i σ H->SqL K H a xs)
   (hs:∀ i x σ H,xs[i]?=some x->Pv i σ H->g x σ H fun σ2 H2=>tb { D with nx:=Pv (i+1),ct:=Pv (i+1),bk:=D.nx } σ2 H2) (hd:∀ σ H,Pv xs.length σ H->D.nx σ H) :
   ∃ W:Nat->Nat->St->Hp->Prop,(∃ m,W 0 m σ H)/\∀ i m σ H,W i m σ H ->
     ((Itl K a).stop i H/\D.nx σ H)\/((Itl K a).go i H/\∃ N:St->Hp->Prop,(∀ σ' H',N σ' H'->∃ m',m'<m/\W (i+1) m' σ' H')/\∀ x H',(Itl K a).yld i H x H'->g x σ H' fun σ2 H2=>tb { D with nx:=N,ct:=N,bk:=D.nx } σ2 H2):=by
 refine ⟨fun i m σ H=>m=xs.length - i/\i<=xs.length/\Pv i σ H,⟨xs.length,by simp,Nat.zero_le _,h0⟩,?_⟩;rintro i m σ H ⟨rfl,hi,p⟩;have q:=hl i σ H hi p;by_cases hlt:i<xs.length
 . refine .inr ⟨⟨xs,xs[i],q,by simp [hlt]⟩,Pv (i+1),fun σ' H' p'=>⟨xs.length - (i+1),by omega,rfl,hlt,p'⟩,fun x H' y=>?_⟩;obtain ⟨e,y⟩:=y;subst e;exact hs i x σ _ (y xs q) p
 . have e:i=xs.length:=by omega
   subst e;exact .inl ⟨⟨xs,q,Nat.le_refl _⟩,hd σ H p⟩
theorem C2 {K:PySem.W.Frag} {a:Addr} {xs:List V} {g:TG} {tb:TS} {D:Ends} {σ:St} {H:Hp} (Pv:Nat->St->Hp->Prop) (h0:Pv 0 σ H) (hl:∀ i σ H,i<=xs.length->Pv i σ H->SqT K H a xs)
   (hs:∀ i x σ H,xs[i]?=some x->Pv i σ H->g x σ H fun σ2 H2=>tb { D with nx:=Pv (i+1),ct:=Pv (i+1),bk:=D.nx } σ2 H2) (hd:∀ σ H,Pv xs.length σ H->D.nx σ H) :
   ∃ W:Nat->Nat->St->Hp->Prop,(∃ m,W 0 m σ H)/\∀ i m σ H,W i m σ H ->
     ((Itt K a).stop i H/\D.nx σ H)\/((Itt K a).go i H/\∃ N:St->Hp->Prop,(∀ σ' H',N σ' H'->∃ m',m'<m/\W (i+1) m' σ' H')/\∀ x H',(Itt K a).yld i H x H'->g x σ H' fun σ2 H2=>tb { D with nx:=N,ct:=N,bk:=D.nx } σ2 H2):=by
 refine ⟨fun i m σ H=>m=xs.length - i/\i<=xs.length/\Pv i σ H,⟨xs.length,by simp,Nat.zero_le _,h0⟩,?_⟩;rintro i m σ H ⟨rfl,hi,p⟩;have q:=hl i σ H hi p;by_cases hlt:i<xs.length
 . refine .inr ⟨⟨xs,xs[i],q,by simp [hlt]⟩,Pv (i+1),fun σ' H' p'=>⟨xs.length - (i+1),by omega,rfl,hlt,p'⟩,fun x H' y=>?_⟩;obtain ⟨e,y⟩:=y;subst e;exact hs i x σ _ (y xs q) p
 . have e:i=xs.length:=by omega
   subst e;exact .inl ⟨⟨xs,q,Nat.le_refl _⟩,hd σ H p⟩
theorem NN {lo:Int} {n:Nat} {g:TG} {tb:TS} {D:Ends} {σ:St} {H:Hp} (Pv:Nat->St->Hp->Prop) (h0:Pv 0 σ H)
   (hs:∀ i σ H,i<n->Pv i σ H->g (.int (lo+i)) σ H fun σ2 H2=>tb { D with nx:=Pv (i+1),ct:=Pv (i+1),bk:=D.nx } σ2 H2) (hd:∀ σ H,Pv n σ H->D.nx σ H) :
   ∃ W:Nat->Nat->St->Hp->Prop,(∃ m,W 0 m σ H)/\∀ i m σ H,W i m σ H ->
     ((Itr lo n).stop i H/\D.nx σ H)\/((Itr lo n).go i H/\∃ N:St->Hp->Prop,(∀ σ' H',N σ' H'->∃ m',m'<m/\W (i+1) m' σ' H')/\∀ x H',(Itr lo n).yld i H x H'->g x σ H' fun σ2 H2=>tb { D with nx:=N,ct:=N,bk:=D.nx } σ2 H2):=by
 refine ⟨fun i m σ H=>m=n - i/\i<=n/\Pv i σ H,⟨n,by simp,Nat.zero_le _,h0⟩,?_⟩;rintro i m σ H ⟨rfl,hi,p⟩;by_cases hlt:i<n
 . refine .inr ⟨hlt,Pv (i+1),fun σ' H' p'=>⟨n - (i+1),by omega,rfl,hlt,p'⟩,fun x H' y=>?_⟩;obtain ⟨e,y⟩:=y;subst e y;exact hs i σ _ hlt p
 . have e:i=n:=by omega
   subst e;exact .inl ⟨Nat.le_refl _,hd σ H p⟩
end L2
namespace L2
open PySem PySem.Spec PyProof.Rows
abbrev R2:=V->V->Hp->VK->Prop
def OpR (X:Cx) (f:Value->Value->Sem Value) (r:R2):Prop :=
 ∀ (pins:List (Addr × Obj)) (s:Shared) (σ:St) (H:Hp) (x y:V) (v u:Value) (Q:VK),Inv X pins σ H s->RelV x v->RelV y u->r x y H Q ->
   wpAny (model X.prog X.w) X.A (f v u) (EP X pins σ Q) X.xe s
def UnR (X:Cx) (f:Value->Sem Value) (r:V->Hp->VK->Prop):Prop :=
 ∀ (pins:List (Addr × Obj)) (s:Shared) (σ:St) (H:Hp) (x:V) (v:Value) (Q:VK),Inv X pins σ H s->RelV x v->r x H Q ->
   wpAny (model X.prog X.w) X.A (f v) (EP X pins σ Q) X.xe s
def jF (X:Cx) (f:Value) (r:List V->Hp->VK->Prop):Prop :=
 ∀ (pins:List (Addr × Obj)) (s:Shared) (σ:St) (H:Hp) (xs:List V) (us:List Value) (Q:VK),Inv X pins σ H s->Vals xs us->r xs H Q ->
   wpAny (model X.prog X.w) X.A (call f us) (EP X pins σ Q) X.xe s
def UH (X:Cx) (r:V->Hp->(Bool->Hp->Prop)->Prop):Prop :=
 ∀ (pins:List (Addr × Obj)) (s:Shared) (σ:St) (H:Hp) (x:V) (v:Value) (Q:Bool->Hp->Prop),Inv X pins σ H s->RelV x v->r x H Q ->
   wpAny (model X.prog X.w) X.A (truthy v) (TP X pins σ Q) X.xe s
def tOp (r:R2) (ta tb:TE):TE:=fun σ H Q=>ta σ H fun x H1=>tb σ H1 fun y H2=>r x y H2 Q
def tUn (r:V->Hp->VK->Prop) (ta:TE):TE:=fun σ H Q=>ta σ H fun x H1=>r x H1 Q
def rI (C:Int->Int->Prop) (g:Int->Int->V):R2:=fun x y H Q=>∃ i j,x=.int i/\y=.int j/\C i j/\Q (g i j) H
def rI0 (g:Int->Int->V):R2:=fun x y H Q=>∃ i j,x=.int i/\y=.int j/\Q (g i j) H
def rU (g:Int->V):V->Hp->VK->Prop:=fun x H Q=>∃ i,x=.int i/\Q (g i) H
section
variable {X:Cx} {a b c:Expr} {ta tb tc:TE} {pos:Pos}
theorem P8 (ha:PE X a ta) (hb:PE X b tb) {pins:List (Addr × Obj)} {s:Shared} {σ:St} {H:Hp} {R:V->V->Hp->Prop} (I:Inv X pins σ H s)
   (h:ta σ H fun x H1=>tb σ H1 fun y H2=>R x y H2) {Q:Value->Shared->Prop} {f:Value->Value->Sem Value}
   (hf:∀ v u s2 x y H2,Inv X pins σ H2 s2->RelV x v->RelV y u->R x y H2->wpAny (model X.prog X.w) X.A (f v u) Q X.xe s2) :
   wpAny (model X.prog X.w) X.A (eval a X.env) (fun v s₁=>wpAny (model X.prog X.w) X.A (eval b X.env) (fun u s₂=>wpAny (model X.prog X.w) X.A (f v u) Q X.xe s₂) X.xe s₁) X.xe s:=by
 refine bn (ha pins s σ H _ I h) fun v s1 x H1 I1 r1 q1=>?_;refine bn (hb pins s1 σ H1 _ I1 q1) fun u s2 y H2 I2 r2 q2=>?_;exact hf v u s2 x y H2 I2 r1 r2 q2
theorem ao {op:Operator} {r:R2} (ho:OpR X (binaryOp op) r) (ha:PE X a ta) (hb:PE X b tb):PE X (.BinOp a op b pos) (tOp r ta tb):=by
 intro pins s σ H Q I h;exact wpAny_BinOp (P8 ha hb I h fun v u s2 x y H2 I2 rx ry q=>ho pins s2 σ H2 x y v u Q I2 rx ry q)
theorem fX {op:UnaryOp} {r:V->Hp->VK->Prop} (ho:UnR X (unaryOp op) r) (ha:PE X a ta):PE X (.UnaryOp op a pos) (tUn r ta):=by
 intro pins s σ H Q I h;exact UnaryOp_ (bn (ha pins s σ H _ I h) fun v s1 x H1 I1 r1 q1=>ho pins s1 σ H1 x v Q I1 r1 q1)
theorem opI {f:Value->Value->Sem Value} {C:Int->Int->Prop} {g:Int->Int->Int}
   (rule:∀ (i j:Int) (t u:Tok) (s:Shared) (Q:Value->Shared->Prop) (E:Value->Shared->Prop),C i j->Q (.int (g i j) s.toks) { s with toks:=s.toks+1 }->wpAny (model X.prog X.w) X.A (f (.int i t) (.int j u)) Q E s) :
   OpR X f (rI C fun i j=>.int (g i j)):=by
 intro pins s σ H x y v u Q I rx ry h;obtain ⟨i,j,rfl,rfl,hc,q⟩:=h;obtain ⟨t,rfl⟩:=rx;obtain ⟨t',rfl⟩:=ry;exact rule i j t t' s _ _ hc ⟨.int (g i j),H,I.tok _,⟨_,rfl⟩,q⟩
theorem TN {f:Value->Value->Sem Value} {g:Int->Int->Int}
   (rule:∀ (i j:Int) (t u:Tok) (s:Shared) (Q:Value->Shared->Prop) (E:Value->Shared->Prop),Q (.int (g i j) s.toks) { s with toks:=s.toks+1 }->wpAny (model X.prog X.w) X.A (f (.int i t) (.int j u)) Q E s) :
   OpR X f (rI0 fun i j=>.int (g i j)):=by
 intro pins s σ H x y v u Q I rx ry h;obtain ⟨i,j,rfl,rfl,q⟩:=h;obtain ⟨t,rfl⟩:=rx;obtain ⟨t',rfl⟩:=ry;exact rule i j t t' s _ _ ⟨.int (g i j),H,I.tok _,⟨_,rfl⟩,q⟩
theorem Kv {f:Value->Value->Sem Value} {g:Int->Int->Bool}
   (rule:∀ (i j:Int) (t u:Tok) (s:Shared) (Q:Value->Shared->Prop) (E:Value->Shared->Prop),Q (.bool (g i j)) s->wpAny (model X.prog X.w) X.A (f (.int i t) (.int j u)) Q E s) :
   OpR X f (rI0 fun i j=>.bl (g i j)):=by
 intro pins s σ H x y v u Q I rx ry h;obtain ⟨i,j,rfl,rfl,q⟩:=h;obtain ⟨t,rfl⟩:=rx;obtain ⟨t',rfl⟩:=ry;exact rule i j t t' s _ _ ⟨.bl (g i j),H,I,rfl,q⟩
def Ak (i j:Int):Prop:=0<j/\j<1073741824
def UM (i j:Int):Prop:=0<=j/\j<=1000000/\i.natAbs<2^64
def CMul (i j:Int):Prop:=(-(2^64)<i/\i<2^64)\/(-(2^64)<j/\j<2^64)
theorem CMul.ok {i j:Int} (h:CMul i j):IntMulOk i j:=by
 rcases h with ⟨h1,h2⟩|⟨h1,h2⟩
 . exact .of_left (intBits_le_64 h1 h2)
 . exact .of_right (intBits_le_64 h1 h2)
theorem cA:OpR X (binaryOp .Add) (rI0 fun i j=>.int (i+j)):=TN fun _ _ _ _ _ _ _ q=>add_int q
theorem gS:OpR X (binaryOp .Sub) (rI0 fun i j=>.int (i - j)):=TN fun _ _ _ _ _ _ _ q=>sub_int q
theorem nj:OpR X (binaryOp .Mult) (rI CMul fun i j=>.int (i*j)):=opI fun _ _ _ _ _ _ _ hc q=>mul_int q hc.ok
theorem aX:OpR X (binaryOp .FloorDiv) (rI Ak fun i j=>.int (i / j)):=opI fun i j _ _ _ _ _ hc q=>by
 have h1:(0:Int)<j:=hc.1;have h2:j<1073741824:=hc.2;exact floordiv_int (by omega) (by rw [Int.fdiv_eq_ediv_of_nonneg i (by omega)];exact q) (.inl (PyProof.noPylong_small (by omega)))
theorem aO:OpR X (binaryOp .Mod) (rI (fun _ j=>0<j) fun i j=>.int (i % j)):=opI fun i j _ _ _ _ _ hc q=>by
 have h1:(0:Int)<j:=hc;exact mod_int' (by omega) (by rw [Int.fmod_eq_emod_of_nonneg i (by omega)];exact q)
theorem Bd:OpR X (binaryOp .Pow) (rI UM fun i j=>.int (i^j.toNat)):=opI fun _ _ _ _ _ _ _ hc q=>pow_int_small hc.1 hc.2.1 hc.2.2 q
theorem unI {f:Value->Sem Value} {g:Int->Int}
   (rule:∀ (i:Int) (t:Tok) (s:Shared) (Q:Value->Shared->Prop) (E:Value->Shared->Prop),Q (.int (g i) s.toks) { s with toks:=s.toks+1 }->wpAny (model X.prog X.w) X.A (f (.int i t)) Q E s) :
   UnR X f (rU fun i=>.int (g i)):=by
 intro pins s σ H x v Q I rx h;obtain ⟨i,rfl,q⟩:=h;obtain ⟨t,rfl⟩:=rx;exact rule i t s _ _ ⟨.int (g i),H,I.tok _,⟨_,rfl⟩,q⟩
theorem d6:UnR X (unaryOp .USub) (rU fun i=>.int (-i)):=unI fun _ _ _ _ _ q=>neg_int q
end
def wH:V->V->Bool
 | .non,.non=>true|.non,.int _=>true|.int _,.non=>true|.non,.bl _=>true|.bl _,.non=>true|.non,.str _=>true|.str _,.non=>true
 | .int _,.int _=>true|.bl _,.bl _=>true|.str _,.str _=>true|.byt _,.byt _=>true
 | .int _,.str _=>true|.str _,.int _=>true|.bl _,.str _=>true|.str _,.bl _=>true
 | _,_=>false
def rEq:R2:=fun x y H Q=>wH x y=true/\Q (.bl (decide (x=y))) H
def rNe:R2:=fun x y H Q=>wH x y=true/\Q (.bl (!decide (x=y))) H
theorem IP {i j:Int}:decide (V.int i=V.int j)=(i == j):=by
 rw [Bool.eq_iff_iff];simp
theorem Oa {i j:Bool}:decide (V.bl i=V.bl j)=(i == j):=by
 rw [Bool.eq_iff_iff];simp
theorem IK {i j:Str}:decide (V.str i=V.str j)=(i == j):=by
 rw [Bool.eq_iff_iff];simp
theorem Jb {i j:Array UInt8}:decide (V.byt i=V.byt j)=(i.toList == j.toList):=by
 rw [Bool.eq_iff_iff];cases i;cases j;simp
section
variable {X:Cx} {a b c:Expr} {ta tb tc:TE} {pos:Pos}
theorem bG {pins:List (Addr × Obj)} {σ:St} {H:Hp} {s:Shared} {Q:VK} {k k':Bool} (I:Inv X pins σ H s) (q:Q (.bl k) H) (e:k=k'):EP X pins σ Q (.bool k') s:=by
 subst e;exact ⟨.bl k,H,I,rfl,q⟩
theorem bM:OpR X (compareOp .Eq) rEq:=by
 intro pins s σ H x y v u Q I rx ry h;obtain ⟨hs,q⟩:=h;cases x with
 | non =>
   cases rx;cases y with
   | non=>cases ry;exact PySem.EqNone.eq_none_none (bG I q (by simp))
   | bl j=>cases ry;exact PySem.EqNone.eq_none_bool (bG I q (by simp))
   | int j=>obtain ⟨t',rfl⟩:=ry;exact PySem.EqNone.eq_none_int (bG I q (by simp))
   | str j=>obtain ⟨t',rfl⟩:=ry;exact PySem.EqNone.eq_none_str (bG I q (by simp))
   | _=>exact absurd (show false=true from hs) Bool.false_ne_true
 | bl i =>
   cases rx;cases y with
   | non=>cases ry;exact PySem.EqNone.eq_bool_none (bG I q (by simp))
   | bl j=>cases ry;exact eq_bool (bG I q Oa)
   | str j=>obtain ⟨t',rfl⟩:=ry;exact PySem.EqMixed.eq_bool_str (bG I q (by simp))
   | _=>exact absurd (show false=true from hs) Bool.false_ne_true
 | int i =>
   obtain ⟨t,rfl⟩:=rx;cases y with
   | non=>cases ry;exact PySem.EqNone.eq_int_none (bG I q (by simp))
   | int j=>obtain ⟨t',rfl⟩:=ry;exact eq_int (bG I q IP)
   | str j=>obtain ⟨t',rfl⟩:=ry;exact PySem.EqMixed.eq_int_str (bG I q (by simp))
   | _=>exact absurd (show false=true from hs) Bool.false_ne_true
 | str i =>
   obtain ⟨t,rfl⟩:=rx;cases y with
   | non=>cases ry;exact PySem.EqNone.eq_str_none (bG I q (by simp))
   | bl j=>cases ry;exact PySem.EqMixed.eq_str_bool (bG I q (by simp))
   | int j=>obtain ⟨t',rfl⟩:=ry;exact PySem.EqMixed.eq_str_int (bG I q (by simp))
   | str j=>obtain ⟨t',rfl⟩:=ry;exact eq_str (bG I q IK)
   | _=>exact absurd (show false=true from hs) Bool.false_ne_true
 | byt i =>
   obtain ⟨t,rfl⟩:=rx;cases y with
   | byt j=>obtain ⟨t',rfl⟩:=ry;exact PySem.W.eq_bytes (bG I q Jb)
   | _=>exact absurd (show false=true from hs) Bool.false_ne_true
 | _=>cases y <;> exact absurd (show false=true from hs) Bool.false_ne_true
theorem re:OpR X (compareOp .NotEq) rNe:=by
 intro pins s σ H x y v u Q I rx ry h;obtain ⟨hs,q⟩:=h;cases x with
 | non =>
   cases rx;cases y with
   | non=>cases ry;exact PySem.EqNone.ne_none_none (bG I q (by simp))
   | bl j=>cases ry;exact PySem.EqNone.ne_none_bool (bG I q (by simp))
   | int j=>obtain ⟨t',rfl⟩:=ry;exact PySem.EqNone.ne_none_int (bG I q (by simp))
   | str j=>obtain ⟨t',rfl⟩:=ry;exact PySem.EqNone.ne_none_str (bG I q (by simp))
   | _=>exact absurd (show false=true from hs) Bool.false_ne_true
 | bl i =>
   cases rx;cases y with
   | non=>cases ry;exact PySem.EqNone.ne_bool_none (bG I q (by simp))
   | bl j=>cases ry;exact ne_bool (bG I q (congrArg not Oa))
   | str j=>obtain ⟨t',rfl⟩:=ry;exact PySem.EqMixed.ne_bool_str (bG I q (by simp))
   | _=>exact absurd (show false=true from hs) Bool.false_ne_true
 | int i =>
   obtain ⟨t,rfl⟩:=rx;cases y with
   | non=>cases ry;exact PySem.EqNone.ne_int_none (bG I q (by simp))
   | int j=>obtain ⟨t',rfl⟩:=ry;exact ne_int (bG I q (congrArg not IP))
   | str j=>obtain ⟨t',rfl⟩:=ry;exact PySem.EqMixed.ne_int_str (bG I q (by simp))
   | _=>exact absurd (show false=true from hs) Bool.false_ne_true
 | str i =>
   obtain ⟨t,rfl⟩:=rx;cases y with
   | non=>cases ry;exact PySem.EqNone.ne_str_none (bG I q (by simp))
   | bl j=>cases ry;exact PySem.EqMixed.ne_str_bool (bG I q (by simp))
   | int j=>obtain ⟨t',rfl⟩:=ry;exact PySem.EqMixed.ne_str_int (bG I q (by simp))
   | str j=>obtain ⟨t',rfl⟩:=ry;exact ne_str (bG I q (congrArg not IK))
   | _=>exact absurd (show false=true from hs) Bool.false_ne_true
 | byt i =>
   obtain ⟨t,rfl⟩:=rx;cases y with
   | byt j=>obtain ⟨t',rfl⟩:=ry;exact PySem.W.ne_bytes (bG I q (congrArg not Jb))
   | _=>exact absurd (show false=true from hs) Bool.false_ne_true
 | _=>cases y <;> exact absurd (show false=true from hs) Bool.false_ne_true
theorem oW:OpR X (compareOp .Lt) (rI0 fun i j=>.bl (decide (i<j))):=Kv fun _ _ _ _ _ _ _ q=>lt_int q
theorem BS:OpR X (compareOp .LtE) (rI0 fun i j=>.bl (decide (i<=j))):=Kv fun _ _ _ _ _ _ _ q=>le_int q
theorem LP:OpR X (compareOp .Gt) (rI0 fun i j=>.bl (decide (j<i))):=Kv fun _ _ _ _ _ _ _ q=>gt_int q
theorem EI:OpR X (compareOp .GtE) (rI0 fun i j=>.bl (decide (j<=i))):=Kv fun _ _ _ _ _ _ _ q=>ge_int q
theorem aD (b:Expr) {op:CmpOp} (h:op≠.In:=by decide) (h2:op≠.NotIn:=by decide):behindInMarks op b=false:=by
 have e1:(op == CmpOp.In)=false:=by cases op <;> first|rfl|exact absurd rfl h
 have e2:(op == CmpOp.NotIn)=false:=by cases op <;> first|rfl|exact absurd rfl h2
 cases b <;> simp [behindInMarks,e1,e2]
theorem o9 {op:CmpOp} {r:R2} (ho:OpR X (compareOp op) r) (ha:PE X a ta) (hb:PE X b tb) (hm:behindInMarks op b=false):PE X (.Compare a [op] [b] pos) (tOp r ta tb):=by
 intro pins s σ H Q I h;exact wpAny_Compare1 (P8 ha hb I h fun v u s2 x y H2 I2 rx ry q=>ho pins s2 σ H2 x y v u Q I2 rx ry q) hm
def ED (t:TE):TT:=fun σ H Q=>t σ H fun x H'=>∃ k,x=.bl k/\Q k H'
theorem ay {op:CmpOp} {r:R2} (ho:OpR X (compareOp op) r) (ha:PE X a ta) (hb:PE X b tb) (hm:behindInMarks op b=false):PT X (.Compare a [op] [b] pos) (ED (tOp r ta tb)):=by
 intro pins s σ H Q I h;refine wpAny_isTrue_Compare1 (bn (ha pins s σ H _ I h) fun v s1 x H1 I1 r1 q1=>bn (hb pins s1 σ H1 _ I1 q1) fun u s2 y H2 I2 r2 q2 =>
   bn (ho pins s2 σ H2 x y v u _ I2 r1 r2 q2) fun c s3 z H3 I3 r3 ⟨k,e,q3⟩=>?_) hm
 subst e;cases r3;exact wpAny_truthy_bool ⟨H3,I3,q3⟩
def Bm (r r':R2) (ta tb tc:TE):TE:=fun σ H Q=>ta σ H fun x H1=>tb σ H1 fun y H2=>r x y H2 fun z H3=>∃ k,z=.bl k /\
 (if k=true then tc σ H3 fun w' H4=>r' y w' H4 Q else Q (.bl false) H3)
theorem Rb {op op':CmpOp} {r r':R2} (ho:OpR X (compareOp op) r) (ho':OpR X (compareOp op') r') (ha:PE X a ta) (hb:PE X b tb) (hc:PE X c tc)
   (hm:lastMarks [op,op'] [b,c]=false:=by with_unfolding_all rfl):PE X (.Compare a [op,op'] [b,c] pos) (Bm r r' ta tb tc):=by
 intro pins s σ H Q I h;refine Compare_chain (bn (ha pins s σ H _ I h) fun v s1 x H1 I1 r1 q1=>chain_link (bn (hb pins s1 σ H1 _ I1 q1) fun u s2 y H2 I2 r2 q2 =>
   bn (ho pins s2 σ H2 x y v u _ I2 r1 r2 q2) fun d s3 z H3 I3 r3 ⟨k,e,q3⟩=>?_)) hm
 subst e;cases r3;refine wpAny_truthy_bool ?_;cases k with
 | false=>exact ite_ff ⟨.bl false,H3,I3,rfl,q3⟩
 | true=>exact ite_tt (chain_last (thn (hc pins s3 σ H3 _ I3 q3) fun w' s4 ⟨z',H4,I4,r4,q4⟩=>ho' pins s4 σ H4 y z' u w' Q I4 r2 r4 q4))
theorem G3 {op op':CmpOp} {r r':R2} (ho:OpR X (compareOp op) r) (ho':OpR X (compareOp op') r') (ha:PE X a ta) (hb:PE X b tb) (hc:PE X c tc)
   (hm:lastMarks [op,op'] [b,c]=false:=by with_unfolding_all rfl):PT X (.Compare a [op,op'] [b,c] pos) (ED (Bm r r' ta tb tc)):=by
 intro pins s σ H Q I h;refine isTrue_chain (bn (ha pins s σ H _ I h) fun v s1 x H1 I1 r1 q1=>test_link (bn (hb pins s1 σ H1 _ I1 q1) fun u s2 y H2 I2 r2 q2 =>
   bn (ho pins s2 σ H2 x y v u _ I2 r1 r2 q2) fun d s3 z H3 I3 r3 ⟨k,e,q3⟩=>?_)) hm
 subst e;cases r3;refine wpAny_truthy_bool ?_;cases k with
 | false =>
   obtain ⟨k',e',q'⟩:=q3;cases e';exact ite_ff ⟨H3,I3,q'⟩
 | true =>
   refine ite_tt (test_last (thn (hc pins s3 σ H3 _ I3 q3) fun w' s4 ⟨z',H4,I4,r4,q4⟩=>thn (ho' pins s4 σ H4 y z' u w' _ I4 r2 r4 q4) fun d' s5 ⟨z2,H5,I5,r5,k2,e2,q5⟩=>?_));subst e2;cases r5;exact wpAny_truthy_bool ⟨H5,I5,q5⟩
def Te (K:PySem.W.Frag) (x:V) (H:Hp) (k:Bool):Prop :=
 match x with
 | .non=>k=false
 | .bl b=>k=b
 | .int i=>k=(i != 0)
 | .str y=>y.length<=sizeLine/\k=((y.length:Int) != 0)
 | .byt y=>y.size<=sizeLine/\k=((y.size:Int) != 0)
 | .ref p=>(∃ xs,SqL K H p xs/\k=!xs.isEmpty)\/(∃ xs,SqT K H p xs/\k=!xs.isEmpty)\/∃ kvs,H p=some (.dK kvs)/\k=!kvs.isEmpty
 | _=>False
theorem LC {κ:Type} {kvs:List (κ × V)} {vs:List (κ × Value)} (r:KV kvs vs):(!vs.isEmpty)=!kvs.isEmpty:=by
 cases r <;> rfl
theorem Be {xs:List V} {its:List Value} (r:Vals xs its):(!its.toArray.isEmpty)=!xs.isEmpty:=by
 cases r <;> simp
theorem pB:(sizeLine:Nat)<2^63:=by rw [sizeLine_eq];decide
theorem TV:UH X (fun x H Q=>∃ k,Te X.K x H k/\Q k H):=by
 intro pins s σ H x v Q I rx h;obtain ⟨k,e,q⟩:=h;have hl:=pB;have hs:sizeLine=16777216:=sizeLine_eq;cases x with
 | non =>
   cases rx;have e':k=false:=e;subst e';exact truthy_none ⟨H,I,q⟩
 | bl b =>
   cases rx;have e':k=b:=e;subst e';exact wpAny_truthy_bool ⟨H,I,q⟩
 | int i =>
   obtain ⟨t,rfl⟩:=rx;have e':k=(i != 0):=e;subst e';exact PySem.P.truthy_int ⟨H,I,q⟩
 | str y =>
   obtain ⟨t,rfl⟩:=rx;obtain ⟨hy,e'⟩:y.length<=sizeLine/\k=((y.length:Int) != 0):=e;subst e';exact PySem.P.truthy_str (by omega) ⟨H,I.tok _,q⟩
 | byt y =>
   obtain ⟨t,rfl⟩:=rx;obtain ⟨hy,e'⟩:y.size<=sizeLine/\k=((y.size:Int) != 0):=e;subst e';exact PySem.W.truthy_bytes (by omega) ⟨H,I.tok _,q⟩
 | ref p =>
   cases rx;have e':(∃ xs,SqL X.K H p xs/\k=!xs.isEmpty)\/(∃ xs,SqT X.K H p xs/\k=!xs.isEmpty)\/∃ kvs,H p=some (.dK kvs)/\k=!kvs.isEmpty:=e;rcases e' with ⟨xs,hx,e'⟩|⟨xs,hx,e'⟩|⟨kvs,hx,e'⟩
   . subst e';obtain ⟨its,r,pl,hz⟩:=I.list hx;have hlen:=r.length;exact wpAny_truthy_list pl.isList (by simp only [List.size_toArray];omega) ⟨H,I.tok _,by rw [Be r];exact q⟩
   . subst e';obtain ⟨its,r,pl,hz⟩:=I.tuple hx;have hlen:=r.length;exact truthy_tuple pl (by simp only [List.size_toArray];omega) ⟨H,I.tok _,by rw [Be r];exact q⟩
   . subst e';obtain ⟨hz,hS,vs,r,m⟩:kvs.length<=sizeLine/\(p == sysModules)=false/\∃ vs,KV kvs vs/\s.heap.DictOf (dq X.prog X.w) p vs:=I.hok p _ hx;have hlen:kvs.length=vs.length:=Paired.length r;exact wpAny_truthy_dict hS m (by omega) ⟨H,I.tok _,by rw [LC r];exact q⟩
 | _=>exact (show False from e).elim
theorem Ri (ha:PE X a ta) (he:∀ whole,isTrue a X.env whole=(do let v <- whole;standAt a.pos;holding [v] (truthy v))) :
   PT X a (fun σ H Q=>ta σ H fun x H'=>∃ k,Te X.K x H' k/\Q k H'):=by
 intro pins s σ H Q I h;exact isTrue_plain (bn (ha pins s σ H _ I h) fun v s1 x H1 I1 r1 q1=>TV pins s1 σ H1 x v Q I1 r1 q1) (he _)
theorem qP {x:V} {us:List Value} (r:Vals [x] us):∃ u,us=[u]/\RelV x u:=by
 cases r with
 | cons r1 r2=>cases r2;exact ⟨_,rfl,r1⟩
theorem EJ {x y:V} {us:List Value} (r:Vals [x,y] us):∃ u w',us=[u,w']/\RelV x u/\RelV y w':=by
 cases r with
 | cons r1 r2 =>
   cases r2 with
   | cons r3 r4=>cases r4;exact ⟨_,_,rfl,r1,r3⟩
theorem DI:jF X (.type "int") (fun xs H Q=>(∃ i,xs=[.int i]/\Q (.int i) H)\/∃ k,xs=[.bl k]/\Q (.int (if k then 1 else 0)) H):=by
 intro pins s σ H xs us Q I r h;rcases h with ⟨i,rfl,q⟩|⟨k,rfl,q⟩
 . obtain ⟨u,rfl,t,rfl⟩:=qP r;exact call_int_int ⟨.int i,H,I,⟨_,rfl⟩,q⟩
 . obtain ⟨u,rfl,r1⟩:=qP r;cases r1;exact call_int_bool ⟨.int (if k then 1 else 0),H,I.tok _,⟨_,rfl⟩,q⟩
end
end L2
namespace L2
open PySem PySem.Spec PyProof.Rows
structure ObjM (h:Heap) (x dx C:Addr) (mA:Str->Option Value):Prop where
 obj:h.get? x=some (PySem.W.instObj C dx)
 ns:h.Ns1 dx mA
 ne:dx≠x
theorem Db {h:Heap} {dx:Addr} {mA:Str->Option Value} (n:h.Ns1 dx mA):∃ od,h.get? dx=some od/\∀ name,PySem.W.lookIn name od=some (mA name):=by
 obtain ⟨o,es,ep,ho,hd,hk,_,hm⟩:=n;refine ⟨o,ho,fun name=>?_⟩;have e:=hm name;unfold nsFind findBy at e;rw [<- Array.find?_toList] at e;unfold PySem.W.lookIn;rw [hd];dsimp only;split
 . rename_i y q
   rw [q] at e;exact congrArg some e
 . rename_i q
   rw [q] at e;have a:es.toList.any (·.refKey)=false:=by
     rw [List.any_eq_false];intro y hy;obtain ⟨z,t,hkey⟩:=hk y (Array.mem_toList_iff.mp hy);simp [DictEntry.refKey,hkey]
   have a':¬ es.toList.any (·.refKey)=true:=by rw [a];exact Bool.false_ne_true
   rw [if_neg a'];exact congrArg some e
theorem ObjM.look {h:Heap} {x dx C:Addr} {mA:Str->Option Value} (I:ObjM h x dx C mA):∃ od,PySem.W.InstAt h x (PySem.W.instObj C dx) C (some od)/\∀ name,PySem.W.lookIn name od=some (mA name) :=
 let ⟨od,ho,hl⟩:=Db I.ns
 ⟨od,⟨I.obj,rfl,rfl,ho⟩,hl⟩
section
variable {prog:Program} {w:World} {A:Around} {E:Value->Shared->Prop} {s:Shared} {K:PySem.W.Frag} {x dx C f:Addr} {mA:Str->Option Value} {name:Str} {v:Value}
theorem So {expr:Bool} {Q:Value->Shared->Prop} (X:K.In s.heap) (I:ObjM s.heap x dx C mA) (hg:PySem.W.plainGet K C name=true) (hh:PySem.W.hasDictIn K C=true)
   (ha:PySem.W.findIn K (.ref C) name=some none) (hv:mA name=some v) (hv':PySem.W.handedIn v=true) (h:Q v { s with toks:=s.toks+1 }) :
   wpAny (model prog w) A (getAttr (.ref x) name expr) Q E s:=by
 obtain ⟨od,J,hl⟩:=I.look;exact PySem.W.get_value X J (PySem.W.plainGet_of hg).1 (PySem.W.findObj_own hh ha rfl (by rw [hl,hv])) hv' h
theorem PU {pl:Sem Bool} {Q:Value × List Value->Shared->Prop} (X:K.In s.heap) (I:ObjM s.heap x dx C mA) (hg:PySem.W.plainGet K C name=true)
   (hf:PySem.W.findIn K (.ref C) name=some (some (.ref f))) (ht:PySem.W.isFn K (.ref f)=true) (hv:mA name=none) (h:Q (.ref f,[.ref x]) s) :
   wpAny (model prog w) A (getMethod (.ref x) name pl) Q E s:=by
 obtain ⟨od,J,hl⟩:=I.look;exact PySem.W.method_fn X J (PySem.W.plainGet_of hg).1 (PySem.W.plainGet_of hg).2 hf (beq_iff_eq.mp ht) (by show (PySem.W.lookIn name od).map (·.isSome)=some false;rw [hl,hv];rfl) h
theorem Sg {ns:List Str} {Q:Unit->Shared->Prop} (X:K.In s.heap) (I:ObjM s.heap x dx C mA)
   (hs:PySem.W.findIn K (.ref C) "__setattr__"=some (some (.builtin "object.__setattr__"))) (hp:PySem.W.plainOver K C=true) (ht:PySem.W.takerIn K C name=some none) (hh:PySem.W.hasDictIn K C=true)
   (hw:PySem.Within mA ns) (hsz:ns.length<=sizeLine)
   (h:∀ h',ObjM h' x dx C (fun y=>if y=name then some v else mA y)->Heap.SameBut dx s.heap h'->Q () { s with heap:=h',toks:=s.toks+2 }) :
   wpAny (model prog w) A (setAttr (.ref x) name v) Q E s:=by
 obtain ⟨od,J,hl⟩:=I.look;refine PySem.W.set_plain X J hs (PySem.W.osa_open (s:={ s with toks:=s.toks+1 }) (r:=none) X J hp ht fun b=>?_);obtain ⟨cd,hc,hd'⟩:=PySem.W.any_some hh;have hx:s.heap.get? x=some ⟨.ref C,some dx,.plain,#[]⟩:=I.obj;refine wpAny_bind (wpAny_pure (wpAny_bind (wpAny_bind (wpAny_loadPart hx (wpAny_bind (PySem.W.Looks.here (s:={ s with toks:=s.toks+1 }) (PySem.W.looks_clsIn X hc) ?_))))));rw [hd'];refine wpAny_pure (a:=some dx) (wpAny_bind (wpAny_pure (wpAny_bind ?_)));refine wpAny_nsSet1 (s:={ s with toks:=s.toks+1 }) I.ns fun h' hn2 hs2=>?_;obtain ⟨oD,esD,epD,hoD,hdD,hcD⟩:=hn2.count (PySem.Within.cons name v hw);refine wpAny_bind (wpAny_lookBehind hoD (by rw [hdD];exact pastItsLine_dict (Nat.le_trans hcD (by rw [List.length_cons];omega))) ?_);exact wpAny_pure (h _ ⟨(hs2.2 _ (Ne.symm I.ne)).trans I.obj,hn2,I.ne⟩ hs2)
theorem Q3 {R:Result->Shared->Prop} {vs:List Value} {kw:List (Str × Value)} (X:K.In s.heap) (hm:PySem.W.makesIn K C=true)
   (hi:PySem.W.findIn K (.ref C) "__init__"=some (some (.ref f))) (hf:PySem.W.typeIn K (.ref f)=some (.type "function"))
   (h:codeAny (model prog w) (A.under (.builtin "type.__call__" ⟨.ref C::vs,kw⟩)) (.call (.ref f) ⟨.ref (s.heap.objs.size+1)::vs,kw⟩) (PySem.W.InitBack (s.heap.objs.size+1) R)
     { s with heap:=(s.heap.push PySem.W.emptyDict).push (PySem.W.instObj C s.heap.objs.size) }) :
   codeAny (model prog w) A (.call (.ref C) ⟨vs,kw⟩) R s:=by
 obtain ⟨hh,g,d,t,os⟩:=s;exact PySem.W.make_core (PySem.W.makes_of X hm) (PySem.W.looks_findIn X hi) (fun self=>PySem.W.bind_fn X self hf) (.inl rfl) h
end
def dv (f:Str) (v:V):List (Str × V)->List (Str × V)
 | []=>[(f,v)]
 | (g,x)::r=>if g=f then (g,v)::r else (g,x)::dv f v r
theorem dg (f g:Str) (v:V):∀ fs:List (Str × V),(dv f v fs).lookup g=if g=f then some v else fs.lookup g
 | []=>by
   show List.lookup g [(f,v)]=_;by_cases h:g=f
   . have hb:(g == f)=true:=beq_iff_eq.mpr h;simp only [List.lookup,hb,if_pos h]
   . have hb:(g == f)=false:=beq_eq_false_iff_ne.mpr h;simp only [List.lookup,hb,if_neg h]
 | (k,x)::r=>by
   have ih:=dg f g v r;rw [show dv f v ((k,x)::r)=(if k=f then (k,v)::r else (k,x)::dv f v r) from rfl];by_cases hk:k=f
   . rw [if_pos hk];by_cases h:g=k
     . have hb:(g == k)=true:=beq_iff_eq.mpr h;simp only [List.lookup,hb,if_pos (h.trans hk)]
     . have hb:(g == k)=false:=beq_eq_false_iff_ne.mpr h;simp only [List.lookup,hb,if_neg (fun e:g=f=>h (e.trans hk.symm))]
   . rw [if_neg hk];by_cases h:g=k
     . have hb:(g == k)=true:=beq_iff_eq.mpr h;simp only [List.lookup,hb,if_neg (fun e:g=f=>hk (h.symm.trans e))]
     . have hb:(g == k)=false:=beq_eq_false_iff_ne.mpr h;simp only [List.lookup,hb];exact ih
theorem yC (f:Str) (v:V):∀ fs:List (Str × V),f∈(dv f v fs).map (·.1)/\∀ g,g∈fs.map (·.1)->g∈(dv f v fs).map (·.1)
 | []=>⟨by simp [dv],fun g h=>by simp at h⟩
 | (k,x)::r=>by
   obtain ⟨i1,i2⟩:=yC f v r;rw [show dv f v ((k,x)::r)=(if k=f then (k,v)::r else (k,x)::dv f v r) from rfl];by_cases hk:k=f
   . rw [if_pos hk];subst hk;exact ⟨by simp,fun g h=>by simpa using h⟩
   . rw [if_neg hk];refine ⟨?_,fun g h=>?_⟩
     . rw [List.map_cons];exact List.mem_cons_of_mem _ i1
     . rw [List.map_cons] at h ⊢;rcases List.mem_cons.mp h with e|e
       . exact List.mem_cons.mpr (.inl e)
       . exact List.mem_cons_of_mem _ (i2 g e)
theorem zB (f:Str) (v:V):∀ fs:List (Str × V),(dv f v fs).length<=fs.length+1
 | []=>by simp [dv]
 | (k,x)::r=>by
   have ih:=zB f v r;rw [show dv f v ((k,x)::r)=(if k=f then (k,v)::r else (k,x)::dv f v r) from rfl];by_cases hk:k=f
   . rw [if_pos hk,List.length_cons,List.length_cons];omega
   . rw [if_neg hk,List.length_cons,List.length_cons];omega
theorem RelO.some_of {v:V} {o:Option Value} (r:RelO (some v) o):∃ u,o=some u/\RelV v u:=by
 cases o with
 | none=>exact (show False from r).elim
 | some u=>exact ⟨u,rfl,r⟩
theorem RelO.none_of {o:Option Value} (r:RelO none o):o=none:=by
 cases o with
 | none=>rfl
 | some u=>exact (show False from r).elim
theorem C9 {v:V} {u:Value} (r:RelV v u):PySem.W.handedIn u=true:=by
 cases v with
 | non=>cases (show u=Value.none from r);rfl
 | bl b=>cases (show u=Value.bool b from r);rfl
 | int i=>obtain ⟨t,e⟩:=(show ∃ t,u=Value.int i t from r);cases e;rfl
 | str x=>obtain ⟨t,e⟩:=(show ∃ t,u=Value.str x t from r);cases e;rfl
 | byt b=>obtain ⟨t,e⟩:=(show ∃ t,u=Value.bytes b t from r);cases e;rfl
 | flt b=>obtain ⟨t,e⟩:=(show ∃ t,u=Value.float b t from r);cases e;rfl
 | ref a=>cases (show u=Value.ref a from r);rfl
 | ty n=>cases (show u=Value.type n from r);rfl
section
variable {P:Program} {w:World} {H H':Hp} {h h':Heap} {a C dx:Addr} {fs fs':List (Str × V)}
theorem yX (hok:HOk P w H h) (e:H a=some (.ins C dx fs)):∃ mA,ObjM h a dx C mA/\(∀ f,RelO (fs.lookup f) (mA f))/\PySem.Within mA (fs.map (·.1))/\fs.length<=1000/\H dx=some (.own a):=by
 obtain ⟨d,z,ne,ob,mA,n,r,q⟩:=(show ObjOk P w H h a (.ins C dx fs) from hok a _ e);exact ⟨mA,⟨ob,n,ne⟩,r,q,z,d⟩
end
structure Cls (K:PySem.W.Frag) (C:Addr):Prop where
 pg:PySem.W.plainGet K C Str.empty=true
 hd:PySem.W.hasDictIn K C=true
 po:PySem.W.plainOver K C=true
 sa:PySem.W.findIn K (.ref C) "__setattr__"=some (some (.builtin "object.__setattr__"))
theorem Cls.get {K:PySem.W.Frag} {C:Addr} (c:Cls K C) (f:Str):PySem.W.plainGet K C f=true:=c.pg
def NoAttr (K:PySem.W.Frag) (C:Addr) (f:Str):Prop:=PySem.W.findIn K (.ref C) f=some none
theorem NoAttr.taker {K:PySem.W.Frag} {C:Addr} {f:Str} (n:NoAttr K C f):PySem.W.takerIn K C f=some none:=by
 unfold PySem.W.takerIn;rw [show PySem.W.findIn K (.ref C) f=some none from n]
 rfl
structure Meth (K:PySem.W.Frag) (C:Addr) (m:Str) (f:Addr):Prop where
 at_:PySem.W.findIn K (.ref C) m=some (some (.ref f))
 fn:PySem.W.isFn K (.ref f)=true
 kp:PySem.W.keepIn K (.ref f)=true
section
variable {X:Cx} {pins:List (Addr × Obj)} {σ:St} {H:Hp} {s:Shared} {a C dx:Addr} {fs:List (Str × V)} {f:Str} {v:V} {A:Around} {E:Value->Shared->Prop}
theorem KF {b:Bool} {Q:Value->Shared->Prop} (I:Inv X pins σ H s) (e:H a=some (.ins C dx fs)) (c:Cls X.K C) (n:NoAttr X.K C f) (l:fs.lookup f=some v)
   (h:∀ u s',Inv X pins σ H s'->RelV v u->Q u s'):wpAny (model X.prog X.w) A (getAttr (.ref a) f b) Q E s:=by
 obtain ⟨mA,O,r,_,_,_⟩:=yX I.hok e;obtain ⟨u,hu,ru⟩:=RelO.some_of (v:=v) (o:=mA f) (by rw [<- l];exact r f);exact So I.kIn O (c.get f) c.hd n hu (C9 ru) (h u _ (I.tok _) ru)
theorem AX {m:Str} {g:Addr} {pl:Sem Bool} {Q:Value × List Value->Shared->Prop} (I:Inv X pins σ H s) (e:H a=some (.ins C dx fs)) (c:Cls X.K C) (k:Meth X.K C m g) (l:fs.lookup m=none)
   (h:Q (.ref g,[.ref a]) s):wpAny (model X.prog X.w) A (getMethod (.ref a) m pl) Q E s:=by
 obtain ⟨mA,O,r,_,_,_⟩:=yX I.hok e;have hn:mA m=none:=RelO.none_of (by rw [<- l];exact r m);exact PU I.kIn O (c.get m) k.at_ k.fn hn h
theorem Jr {y:V} {u:Value} {Q:Unit->Shared->Prop} (I:Inv X pins σ H s) (e:H a=some (.ins C dx fs)) (c:Cls X.K C) (n:NoAttr X.K C f) (hl:fs.length<1000) (ry:RelV y u)
   (h:∀ s',Inv X pins σ (upd H a (.ins C dx (dv f y fs))) s'->Q () s'):wpAny (model X.prog X.w) A (setAttr (.ref a) f u) Q E s:=by
 obtain ⟨mA,O,r,wi,_,ho⟩:=yX I.hok e;have hz:(fs.map (·.1)).length<=sizeLine:=by rw [List.length_map,sizeLine_eq];omega
 refine Sg I.kIn O c.sa c.po n.taker c.hd wi hz fun h' O' sb=>h _ ?_;have hd:∃ o,h'.get? dx=some o:=let ⟨o,_,_,e',_⟩:=O'.ns;⟨o,e'⟩;refine I.write (x:=a) (e:=dx) (by rw [e];exact True.intro) (.inr ho) (fun b q hb z=>(sb.2 b hb).trans z) hd ?_;refine ⟨by rw [aq O.ne];exact ho,?_,O.ne,O'.obj,_,O'.ns,fun g=>?_,fun g hg=>?_⟩
 . have:=zB f y fs;omega
 . show RelO ((dv f y fs).lookup g) (if g=f then some u else mA g);rw [dg];by_cases q:g=f
   . rw [if_pos q,if_pos q];exact ry
   . rw [if_neg q,if_neg q];exact r g
 . by_cases q:g=f
   . rw [q];exact (yC f y fs).1
   . refine (yC f y fs).2 g (wi g fun z=>hg ?_);show (if g=f then some u else mA g)=none;rw [if_neg q];exact z
theorem Inv.made (I:Inv X pins σ H s):Inv X pins σ (upd (upd H s.heap.objs.size (.own (s.heap.objs.size+1))) (s.heap.objs.size+1) (.ins C s.heap.objs.size []))
   { s with heap:=(s.heap.push PySem.W.emptyDict).push (PySem.W.instObj C s.heap.objs.size) }:=by
 have e1:(s.heap.push PySem.W.emptyDict).get? s.heap.objs.size=some PySem.W.emptyDict:=Heap.get?_push_size s.heap rfl;have e2:((s.heap.push PySem.W.emptyDict).push (PySem.W.instObj C s.heap.objs.size)).get? (s.heap.objs.size+1)=some (PySem.W.instObj C s.heap.objs.size):=by
   have:=Heap.get?_push_size (s.heap.push PySem.W.emptyDict) (o:=PySem.W.instObj C s.heap.objs.size) rfl
   rwa [Heap.size_push] at this
 have e3:(s.heap.push PySem.W.emptyDict).Ns s.heap.objs.size (fun _=>none):=⟨PySem.W.emptyDict,#[],_,e1,rfl,(fun e he=>absurd he (by simp)),fun _=>rfl⟩;have I1:=I.laid (a:=s.heap.objs.size) (o:=.own (s.heap.objs.size+1)) (h':=s.heap.push PySem.W.emptyDict) (t':=s.toks) (fun b u q=>Heap.get?_push_of_some _ q) (Nat.le_refl _) ⟨_,e1⟩;refine I1.laid (a:=s.heap.objs.size+1) (o:=.ins C s.heap.objs.size []) (t':=s.toks) (fun b u q=>Heap.get?_push_of_some _ q) (Nat.le_of_eq (Heap.size_push _ _)) ?_;have ne:s.heap.objs.size≠s.heap.objs.size+1:=Nat.ne_of_lt (Nat.lt_succ_self _);refine ⟨by rw [aq ne,ah],Nat.zero_le _,ne,e2,fun _=>none,(Heap.Ns1.of_empty e3).at fun o q=>Heap.get?_push_of_some _ q,fun _=>True.intro,fun y hy=>absurd rfl hy⟩
theorem IM {prog:Program} {w:World} {env:Env} {e:Expr} {f:Str} {pos:Pos} {s:Shared} {Q:Value->Shared->Prop} (hb:attributeBase e f env (eval e env)=eval e env)
   (h:wpAny (model prog w) A (eval e env) (fun o s₁=>wpAny (model prog w) A (getAttr o f true) Q E s₁) E s):wpAny (model prog w) A (eval (.Attribute e f pos) env) Q E s :=
 Attribute_any_ h (by rw [arm_eval_Attribute,hb])
end
def QY (K:PySem.W.Frag) (ta:TE) (f:Str):TE:=fun σ H Q=>ta σ H fun x H1=>∃ a C dx fs v,x=.ref a/\H1 a=some (.ins C dx fs)/\Cls K C/\NoAttr K C f/\fs.lookup f=some v/\Q v H1
def QN (K:PySem.W.Frag) (ta tv:TE) (f:Str):TS:=fun D σ H=>tv σ H fun y H1=>ta σ H1 fun x H2=>∃ a C dx fs,x=.ref a/\H2 a=some (.ins C dx fs)/\Cls K C/\NoAttr K C f/\fs.length<1000 /\
 D.nx σ (upd H2 a (.ins C dx (dv f y fs)))
section
variable {X:Cx} {o e value:Expr} {f:Str} {pos pos' tpos:Pos} {ta tv:TE}
theorem dA (he:PE X e ta) (hb:attributeBase e f X.env (eval e X.env)=eval e X.env):PE X (.Attribute e f pos) (QY X.K ta f):=by
 intro pins s σ H Q I h;refine IM hb (bn (he pins s σ H _ I h) fun u s1 x H1 I1 rx ⟨a,C,dx,fs,v,ex,ea,c,n,l,q⟩=>?_);subst ex;obtain rfl:u=Value.ref a:=rx;exact KF I1 ea c n l fun u' s2 I2 ru=>⟨v,H1,I2,ru,q⟩
theorem A7 (ha:PE X o ta) (hv:PE X value tv) (hs:swapsWith value (some (.Attribute o f pos')) pos.line X.env=pure false):PS X (.Assign [.Attribute o f pos'] value pos) (QN X.K ta tv f):=by
 intro pins s σ H D I h;refine plainObj_wpAny_Assign_Attribute (bn (hv pins s σ H _ I h) fun u s1 y H1 I1 ry q=>bn (ha pins s1 σ H1 _ I1 q) fun ov s2 x H2 I2 rx ⟨a,C,dx,fs,ex,ea,c,n,l,q2⟩=>?_) hs;subst ex;obtain rfl:ov=Value.ref a:=rx;exact Jr I2 ea c n l ry fun s3 I3=>⟨σ,_,I3,q2⟩
end
section
variable {X:Cx} {pins:List (Addr × Obj)} {σ:St} {H:Hp} {s:Shared} {A:Around} {E:Value->Shared->Prop} {Q:Value->Shared->Prop} {c:Value} {b:Bool}
inductive TyOf (K:PySem.W.Frag) (H:Hp):V->Value->Prop where
 | non:TyOf K H .non (.type "NoneType")
 | bl (x:Bool):TyOf K H (.bl x) (.type "bool")
 | int (i:Int):TyOf K H (.int i) (.type "int")
 | str (x:Str):TyOf K H (.str x) (.type "str")
 | flt (x:UInt64):TyOf K H (.flt x) (.type "float")
 | lst {a:Addr} {xs:List V} (e:H a=some (.lst xs)):TyOf K H (.ref a) (.type "list")
 | frz {a:Addr} {o:Obj} {xs:List V} (e:H a=some (.frz o (.lst xs))):TyOf K H (.ref a) (.type "list")
 | tup {a:Addr} {xs:List V} (e:H a=some (.tup xs)):TyOf K H (.ref a) (.type "tuple")
 | dK {a:Addr} {kvs:List (Key × V)} (e:H a=some (.dK kvs)):TyOf K H (.ref a) (.type "dict")
 | dT {a:Addr} {kvs:List (List Key × V)} (e:H a=some (.dT kvs)):TyOf K H (.ref a) (.type "dict")
 | ins {a C dx:Addr} {fs:List (Str × V)} (e:H a=some (.ins C dx fs)) (cl:Cls K C) (ha:PySem.W.findIn K (.ref C) "__class__"=some (some (.builtin "object.__class__")))
     (hn:PySem.W.specialIn K (.builtin "object.__class__") "__get__"=some (some (.builtin "getset_descriptor.__get__"))) (htk:PySem.W.takesIn K (.builtin "object.__class__")=some true)
     (hm:PySem.W.mroIn K C (.type "object")=some true):TyOf K H (.ref a) (.ref C)
theorem Nu {x:V} {u t:Value} (I:Inv X pins σ H s) (rx:RelV x u) (ty:TyOf X.K H x t) (e:PySem.W.kitOne X.K t c=some b) (h:∀ tk,Q (.bool b) { s with toks:=tk }) :
   wpAny (model X.prog X.w) A (call (.builtin "isinstance") [u,c]) Q E s:=by
 cases ty with
 | non=>cases (show u=Value.none from rx);exact PySem.W.kia_one PySem.W.kitx_none I.kIn True.intro e (fun z=>nomatch z) h
 | bl y=>cases (show u=Value.bool y from rx);exact PySem.W.kia_one PySem.W.kitx_bool I.kIn True.intro e (fun z=>nomatch z) h
 | int i=>obtain ⟨t,q⟩:=(show ∃ t,u=Value.int i t from rx);cases q;exact PySem.W.kia_one PySem.W.kitx_int I.kIn True.intro e (fun z=>nomatch z) h
 | str y=>obtain ⟨t,q⟩:=(show ∃ t,u=Value.str y t from rx);cases q;exact PySem.W.kia_one PySem.W.kitx_str I.kIn True.intro e (fun z=>nomatch z) h
 | flt y=>obtain ⟨t,q⟩:=(show ∃ t,u=Value.float y t from rx);cases q;exact PySem.W.kia_one PySem.W.kitx_float I.kIn True.intro e (fun z=>nomatch z) h
 | @lst a xs ea =>
   cases (show u=Value.ref a from rx);obtain ⟨_,_,n,_,h1⟩:=(show ObjOk X.prog X.w H s.heap a (.lst xs) from I.hok a _ ea);exact PySem.W.kia_one PySem.W.kitx_list I.kIn ⟨_,h1,rfl⟩ e (fun z=>nomatch z) h
 | @frz a ob xs ea =>
   cases (show u=Value.ref a from rx);obtain ⟨_,_,_,n,_,h1⟩:=(show ObjOk X.prog X.w H s.heap a (.frz ob (.lst xs)) from I.hok a _ ea);exact PySem.W.kia_one PySem.W.kitx_list I.kIn ⟨_,h1,rfl⟩ e (fun z=>nomatch z) h
 | @tup a xs ea =>
   cases (show u=Value.ref a from rx);obtain ⟨_,_,_,p⟩:=(show ObjOk X.prog X.w H s.heap a (.tup xs) from I.hok a _ ea);obtain ⟨o,h1,h2,_⟩:=p;exact PySem.W.kia_one PySem.W.kitx_tuple I.kIn ⟨o,h1,h2⟩ e (fun z=>nomatch z) h
 | @dK a kvs ea =>
   cases (show u=Value.ref a from rx);obtain ⟨_,_,vs,_,p⟩:=(show ObjOk X.prog X.w H s.heap a (.dK kvs) from I.hok a _ ea);obtain ⟨o,es,ep,h1,h2,_⟩:=p;exact PySem.W.kia_one PySem.W.kitx_dict I.kIn ⟨o,h1,h2.1⟩ e (fun z=>nomatch z) h
 | @dT a kvs ea =>
   cases (show u=Value.ref a from rx);obtain ⟨_,_,xs,_,o,es,ep,h1,h2,_⟩:=(show ObjOk X.prog X.w H s.heap a (.dT kvs) from I.hok a _ ea);exact PySem.W.kia_one PySem.W.kitx_dict I.kIn ⟨o,h1,h2.1⟩ e (fun z=>nomatch z) h
 | @ins a C dx fs ea cl ha hn htk hm =>
   cases (show u=Value.ref a from rx);obtain ⟨mA,O,_⟩:=yX I.hok ea;obtain ⟨od,J,_⟩:=O.look;exact PySem.W.kia_one (PySem.W.kitx_own (cl.get _) cl.hd ha hn htk hm) I.kIn J e (fun z=>nomatch z) h
end
end L2
namespace L2
open PySem PySem.Spec PyProof.Rows
structure Room (k:Nat) (A:Around):Prop where
 hd:A.handled=none
 dp:A.depth+3*k+5<recursionLimit
 un:A.units+16*k+200<cLine
theorem Room.mono {j k:Nat} {A:Around} (r:Room k A) (h:j<=k):Room j A:=⟨r.hd,by have:=r.dp;omega,by have:=r.un;omega⟩
theorem Room.deeper {k:Nat} {A:Around} (r:Room (k+1) A) (env:Env):Room k (A.deeper env) :=
 ⟨r.hd,by have:=r.dp;show A.depth+1+3*k+5<_;omega,by have:=r.un;show A.units+3+16*k+200<_;omega⟩
theorem Ju {A:Around} {C:Addr} {us:List Value} {kw:List (Str × Value)}:(A.under (.builtin "type.__call__" ⟨.ref C::us,kw⟩)).depth=A.depth+1:=by
 first|rfl|simp [Around.under,Code.weight,Code.isCreation,Code.isGuard,Code.isCaller,Code.frames,Code.isFrame,guardIds]
theorem Js {A:Around} {C:Addr} {us:List Value} {kw:List (Str × Value)}:(A.under (.builtin "type.__call__" ⟨.ref C::us,kw⟩)).units=A.units+1:=by
 first|rfl|simp [Around.under,Code.cUnits,Code.frames,Code.isFrame]
theorem Room.make {k:Nat} {A:Around} (r:Room (k+1) A) (C:Addr) (us:List Value) (kw:List (Str × Value)):Room k (A.under (.builtin "type.__call__" ⟨.ref C::us,kw⟩)) :=
 ⟨r.hd,by have:=r.dp;rw [Ju];omega,by have:=r.un;rw [Js];omega⟩
theorem Room.depth {k:Nat} {A:Around} (r:Room k A):A.depth<recursionLimit:=by have:=r.dp;omega
theorem Room.units {k:Nat} {A:Around} (r:Room k A):A.units+64<cLine:=by have:=r.un;omega
def tNil:TA:=fun _ H Q=>Q [] H
def Mz (ta:TE) (tr:TA):TA:=fun σ H Q=>ta σ H fun x H1=>tr σ H1 fun xs H2=>Q (x::xs) H2
section
variable {X:Cx} {e:Expr} {es:List Expr} {te:TE} {t:TA} {pos:Pos}
theorem aj:PA X [] tNil:=fun _ _ _ _ H Q I h=>Calls.spliced_nil ⟨[],H,I,.nil,h⟩
theorem af (ha:PE X e te) (hr:PA X es t) (hs:starEach (e::es) X.env=(false,eval e X.env)::starEach es X.env:=by rfl):PA X (e::es) (Mz te t):=by
 intro pos pins s σ H Q I h;rw [hs];show wpAny _ _ (spliced ((false,eval e X.env)::backTo pos (starEach es X.env))) _ _ s;refine Calls.spliced_cons (bn (ha pins s σ H _ I h) fun u s1 x H1 I1 r1 q1=>?_);exact mS (hr pos pins s1 σ H1 _ I1 q1) fun us s2 xs H2 I2 r2 q2=>⟨x::xs,H2,I2,.cons r1 r2,q2⟩
def Qn (t:TA):TE:=fun σ H Q=>t σ H fun xs H1=>xs.length<=sizeLine/\∀ p,H1 p=none->Q (.ref p) (upd H1 p (.tup xs))
def Pq (t:TA):TE:=fun σ H Q=>t σ H fun xs H1=>xs.length<=sizeLine/\∀ p,H1 p=none->Q (.ref p) (upd H1 p (.lst xs))
theorem dM {x1} (h:PA X es t):PE X (.Tuple es x1 pos) (Qn t):=by
 intro pins s σ H Q I hq;refine wpAny_Tuple_spliced (mS (h pos pins s σ H _ I hq) fun us s1 xs H1 I1 r ⟨z,q⟩=>⟨by rw [<- r.length];exact z,?_⟩);have hf:H1 s1.heap.objs.size=none:=I1.hok.fresh (Nat.le_refl _);refine ⟨.ref s1.heap.objs.size,upd H1 s1.heap.objs.size (.tup xs),I1.laid (t':=s1.toks) (fun b u e=>Heap.get?_push_of_some _ e) (Nat.le_refl _) ?_,rfl,q _ hf⟩;exact ⟨z,us,r,⟨_,Heap.get?_push_size _ rfl,rfl,_,rfl⟩⟩
theorem bE (h:PA X es t):PE X (.List es pos) (Pq t):=by
 intro pins s σ H Q I hq;refine wpAny_List_spliced (mS (h pos pins s σ H _ I hq) fun us s1 xs H1 I1 r ⟨z,q⟩=>⟨by rw [<- r.length];exact z,?_⟩);have hf:H1 s1.heap.objs.size=none:=I1.hok.fresh (Nat.le_refl _);refine ⟨.ref s1.heap.objs.size,upd H1 s1.heap.objs.size (.lst xs),I1.laid (t':=s1.toks) (fun b u e=>Heap.get?_push_of_some _ e) (Nat.le_refl _) ?_,rfl,q _ hf⟩;exact ⟨z,us,0,r,Heap.get?_push_size _ rfl⟩
end
abbrev Sp:=List V->Hp->VK->XK->Prop
abbrev CXT:=List Env->Hp->Shared->XK->Value->Shared->Prop
structure Env0 (P:Program) (w:World) (K:PySem.W.Frag) (mg:Str->Option Value) (base:Heap) (A:Around) (outer:List Env) (s:Shared) (H:Hp):Prop where
 frames:A.frames=some outer
 mod:Mod K mg base
 bs:∀ b o,base.get? b=some o->s.heap.get? b=some o/\H b=none
 bsz:base.objs.size<=s.heap.objs.size
 funs:s.heap.FunFrames base outer
 frf:∀ b∈frs outer,H b=none
 hok:HOk P w H s.heap
 bare:AllBare s.gens
def CE (outer:List Env) (P:Program) (w:World) (H:Hp) (s:Shared) (Q:VK) (u:Value) (s':Shared):Prop :=
 ∃ v H',s'.os=s.os/\AllBare s'.gens/\Un (frs outer) [] H H' s.heap s'.heap/\HOk P w H' s'.heap/\RelV v u/\Q v H'
def CR (CX:CXT) (outer:List Env) (P:Program) (w:World) (H:Hp) (s:Shared) (Q:VK) (E:XK) (r:Result) (s':Shared):Prop :=
 match r with
 | .ok (.ret u)=>CE outer P w H s Q u s'
 | .ok _=>False
 | .error e=>CX outer H s E e s'
structure FnOk (P:Program) (w:World) (K:PySem.W.Frag) (mg:Str->Option Value) (base:Heap) (CX:CXT) (k:Nat) (f:Addr) (fd:FuncData) (ps:List Str) (sp:Sp):Prop where
 len:∀ vs H Q E,sp vs H Q E->vs.length=ps.length
 run:∀ (A:Around) (outer:List Env) (s:Shared) (H:Hp) (args:Args) (us:List Value) (vs:List V) (Q:VK) (E:XK),Room k A->Env0 P w K mg base A outer s H->BindsTo s fd args (ps.zip us)->Vals vs us->sp vs H Q E ->
   codeAny (model P w) A (.call (.ref f) args) (CR CX outer P w H s Q E) s
theorem Env0.make {P:Program} {w:World} {K:PySem.W.Frag} {mg:Str->Option Value} {base:Heap} {A:Around} {outer:List Env} {s:Shared} {H:Hp} (e:Env0 P w K mg base A outer s H) (C:Addr) (us:List Value) (kw:List (Str × Value)) :
   Env0 P w K mg base (A.under (.builtin "type.__call__" ⟨.ref C::us,kw⟩)) outer s H:=⟨by first|exact e.frames|(simpa [Around.under,Code.envs,Code.isFrame,pushEnvs] using e.frames),e.mod,e.bs,e.bsz,e.funs,e.frf,e.hok,e.bare⟩
section
variable {X:Cx} {pins:List (Addr × Obj)} {σ:St} {H:Hp} {s s':Shared}
theorem Inv.env0 (I:Inv X pins σ H s):Env0 X.prog X.w X.K X.mg X.base X.A X.stack s H :=
 ⟨I.ok.frames,I.ok.mod,I.bs,Nat.le_trans I.ok.bsz I.sz,I.stack,I.stkFree,I.hok,I.bare⟩
theorem Inv.after {Q:VK} {u:Value} (I:Inv X pins σ H s) (h:CE X.stack X.prog X.w H s Q u s'):EP X pins σ Q u s':=by
 obtain ⟨v,H',os,bare,un,hok,r,q⟩:=h;obtain ⟨hh,g,d,t,os'⟩:=s';obtain rfl:os'=s.os:=os;exact ⟨v,H',I.call (h':=hh) (g':=g) (d':=d) (t':=t) (ch:=[]) un hok bare (fun b z=>absurd z (by simp)),r,q⟩
end
def BI (sp:Sp) (dvs:List V) (E:XK) (t:TA):TE:=fun σ H Q=>t σ H fun vs H1=>sp (vs++dvs) H1 Q E
def EE (C:Addr) (m:Str) (sp:Sp) (dvs:List V) (E:XK) (ta:TE) (t:TA):TE:=fun σ H Q=>ta σ H fun x H1=>∃ a dx fs,x=.ref a/\H1 a=some (.ins C dx fs)/\fs.lookup m=none /\
 t σ H1 fun vs H2=>sp (x::(vs++dvs)) H2 Q E
def MM (C:Addr) (sp:Sp) (dvs:List V) (E:XK) (t:TA):TE:=fun σ H Q=>t σ H fun vs H1=>∀ x dx,H1 x=none->H1 dx=none->dx≠x ->
 sp (.ref x::(vs++dvs)) (upd (upd H1 dx (.own x)) x (.ins C dx [])) (fun v H2=>v=.non/\Q (.ref x) H2) E
def Binds (K:PySem.W.Frag) (fd:FuncData) (ps:List Str) (ds:List Value):Prop :=
 ∀ (s:Shared) (us:List Value),K.In s.heap->(us++ds).length=ps.length->BindsTo s fd ⟨us,[]⟩ (ps.zip (us++ds))
theorem Binds.all {K:PySem.W.Frag} {fd:FuncData} {ps:List Str} (h:∀ us:List Value,us.length=ps.length->bindArgs fd ⟨us,[]⟩=pure (ps.zip us)):Binds K fd ps []:=fun s us _ hl=>by
 rw [List.append_nil] at hl ⊢;exact .of_eq (h us hl)
def nu (CX:CXT) (X:Cx) (E:XK):Prop:=∀ (pins:List (Addr × Obj)) (σ:St) (H:Hp) (s:Shared) (e:Value) (s':Shared),Inv X pins σ H s->CX X.stack H s E e s'->X.xe e s'
section
variable {X:Cx} {CX:CXT} {k:Nat} {f C:Addr} {fd:FuncData} {ps:List Str} {sp:Sp} {dvs:List V} {ds:List Value} {E:XK} {x m:Str} {p pos apos:Pos} {e o:Expr} {es:List Expr} {ta:TE} {t:TA}
theorem FD {pins:List (Addr × Obj)} {σ:St} {H:Hp} {s:Shared} {Q:VK} {us:List Value} {vs:List V} (F:FnOk X.prog X.w X.K X.mg X.base CX k f fd ps sp) (hr:Room k X.A) (hb:Binds X.K fd ps ds) (hd:Vals dvs ds) (hx:nu CX X E)
   (I:Inv X pins σ H s) (r:Vals vs us) (h:sp (vs++dvs) H Q E):wpAny (model X.prog X.w) X.A (call (.ref f) us) (EP X pins σ Q) X.xe s:=by
 have r2:Vals (vs++dvs) (us++ds):=r.append hd;have hl:(us++ds).length=ps.length:=by rw [<- r2.length];exact F.len _ _ _ _ h
 refine wpAny_call (codeAny_mono (F.run X.A X.stack s H ⟨us,[]⟩ (us++ds) (vs++dvs) Q E hr I.env0 (hb s us I.kIn hl) r2 h) fun r s' hq=>?_);cases r with
 | error e=>exact hx pins σ H s e s' I hq
 | ok fl =>
   cases fl with
   | ret u=>exact I.after hq
   | next=>exact False.elim hq
   | brk=>exact False.elim hq
   | cont=>exact False.elim hq
theorem aE (F:FnOk X.prog X.w X.K X.mg X.base CX k f fd ps sp) (hr:Room k X.A) (hg:Gl X x) (hm:X.mg x=some (.ref f)) (hk:PySem.W.keepIn X.K (.ref f)=true) (hb:Binds X.K fd ps ds) (hd:Vals dvs ds) (hx:nu CX X E)
   (ha:PA X (e::es) t) (hdb:(x == ("__debug__":Str))=false:=by decide) (he:starEach (e::es) X.env=(false,eval e X.env)::starEach es X.env:=by rfl) (hpl:(backTo pos (starEach es X.env)).any (·.1)=false:=by rfl) :
   PE X (.Call (.Name x p) (e::es) [] pos) (BI sp dvs E t):=by
 intro pins s σ H Q I h;refine wpAny_Call_Name_kw (jG I hg hm ?_ hdb);refine PySem.W.callWith_K (h₀:=X.base) I.ok.mod.kin hk (mS (ha pos pins s σ H _ I h) fun us s1 vs H1 I1 r q=>⟨I1.kIn,?_⟩) he hpl;exact FD F hr hb hd hx I1 r q
theorem pb {pl:Sem Bool} (he:PE X o ta) (c:Cls X.K C) (hm:Meth X.K C m f) (F:FnOk X.prog X.w X.K X.mg X.base CX k f fd ps sp) (hr:Room k X.A) (hb:Binds X.K fd ps ds) (hd:Vals dvs ds) (hx:nu CX X E) (ha:PA X (e::es) t)
   (hst:starEach (e::es) X.env=(false,eval e X.env)::starEach es X.env:=by rfl) (hpl:(backTo pos (starEach es X.env)).any (·.1)=false:=by rfl)
   (ht:eval (.Call (.Attribute o m apos) (e::es) [] pos) X.env=(do
     let ov <- eval o X.env
     standAt apos.atName
     let (f,first) <- holding [ov] (getMethod ov m pl)
     callWith pos f first (backTo pos (starEach (e::es) X.env)) (backToKw pos (keywordEach [] X.env))):=by rfl) :
   PE X (.Call (.Attribute o m apos) (e::es) [] pos) (EE C m sp dvs E ta t):=by
 intro pins s σ H Q I h;refine PySem.W.methodCall_KW (pl:=pl) (bn (he pins s σ H _ I h) fun u s1 x H1 I1 rx ⟨a,dx,fs,ex,ea,l,q⟩=>?_) ht;subst ex;obtain rfl:u=Value.ref a:=rx;refine AX I1 ea c hm l ?_;refine PySem.W.callWith_K (first:=[.ref a]) (h₀:=X.base) I.ok.mod.kin hm.kp (mS (ha pos pins s1 σ H1 _ I1 q) fun us s2 vs H2 I2 r q2=>⟨I2.kIn,?_⟩) hst hpl;exact FD (us:=.ref a::us) (vs:=.ref a::vs) F hr hb hd hx I2 (.cons rfl r) q2
theorem eT {pl:Sem Bool} (he:PE X o ta) (c:Cls X.K C) (hm:Meth X.K C m f) (F:FnOk X.prog X.w X.K X.mg X.base CX k f fd ps sp) (hr:Room k X.A) (hb:Binds X.K fd ps ds) (hd:Vals dvs ds) (hx:nu CX X E)
   (ht:eval (.Call (.Attribute o m apos) [] [] pos) X.env=(do
     let ov <- eval o X.env
     standAt apos.atName
     let (f,first) <- holding [ov] (getMethod ov m pl)
     callWith pos f first (backTo pos (starEach [] X.env)) (backToKw pos (keywordEach [] X.env))):=by rfl) :
   PE X (.Call (.Attribute o m apos) [] [] pos) (EE C m sp dvs E ta tNil):=by
 intro pins s σ H Q I h;refine PySem.W.methodCall_KW (pl:=pl) (bn (he pins s σ H _ I h) fun u s1 x H1 I1 rx ⟨a,dx,fs,ex,ea,l,q⟩=>?_) ht;subst ex;obtain rfl:u=Value.ref a:=rx;refine AX I1 ea c hm l ?_;exact PySem.W.callWith_K0 (first:=[.ref a]) I1.kIn hm.kp (FD (us:=[.ref a]) (vs:=[.ref a]) F hr hb hd hx I1 (.cons rfl .nil) q)
structure Mk (K:PySem.W.Frag) (C f:Addr):Prop where
 makes:PySem.W.makesIn K C=true
 init:PySem.W.findIn K (.ref C) "__init__"=some (some (.ref f))
 fn:PySem.W.isFn K (.ref f)=true
 kp:PySem.W.keepIn K (.ref C)=true
theorem Pj {pins:List (Addr × Obj)} {σ:St} {H:Hp} {s:Shared} {Q:VK} {us:List Value} {vs:List V} (M:Mk X.K C f) (F:FnOk X.prog X.w X.K X.mg X.base CX k f fd ps sp) (hr:Room (k+1) X.A) (hb:Binds X.K fd ps ds) (hd:Vals dvs ds)
   (hx:nu CX X E) (I:Inv X pins σ H s) (r:Vals vs us)
   (h:∀ x dx,H x=none->H dx=none->dx≠x->sp (.ref x::(vs++dvs)) (upd (upd H dx (.own x)) x (.ins C dx [])) (fun v H2=>v=.non/\Q (.ref x) H2) E) :
   wpAny (model X.prog X.w) X.A (call (.ref C) us) (EP X pins σ Q) X.xe s:=by
 have hq:=h (s.heap.objs.size+1) s.heap.objs.size (I.hok.fresh (Nat.le_succ _)) (I.hok.fresh (Nat.le_refl _)) (Nat.ne_of_lt (Nat.lt_succ_self _));have I2:=Inv.made (C:=C) I;have r2:Vals (V.ref (s.heap.objs.size+1)::(vs++dvs)) (Value.ref (s.heap.objs.size+1)::(us++ds)):=.cons rfl (r.append hd);have hl:(Value.ref (s.heap.objs.size+1)::us++ds).length=ps.length:=by
   have e:=r2.length;rw [F.len _ _ _ _ hq] at e;exact e.symm
 refine wpAny_call (Q3 (f:=f) I.kIn M.makes M.init (beq_iff_eq.mp M.fn) (codeAny_mono (F.run _ X.stack _ _ ⟨Value.ref (s.heap.objs.size+1)::us,[]⟩ (Value.ref (s.heap.objs.size+1)::(us++ds)) _ _ E (hr.make C us [])
   (I2.env0.make C us []) (hb _ (Value.ref (s.heap.objs.size+1)::us) I2.kIn hl) r2 hq) fun r s' hq'=>?_))
 cases r with
 | error e=>exact hx pins σ _ _ e s' I2 hq'
 | ok fl =>
   cases fl with
   | ret u =>
     obtain ⟨v,H',I3,rv,ev,q3⟩:=I2.after hq';subst ev;exact ⟨rv,⟨V.ref (s.heap.objs.size+1),H',I3,rfl,q3⟩⟩
   | next=>exact False.elim hq'
   | brk=>exact False.elim hq'
   | cont=>exact False.elim hq'
theorem Cc (M:Mk X.K C f) (F:FnOk X.prog X.w X.K X.mg X.base CX k f fd ps sp) (hr:Room (k+1) X.A) (hg:Gl X x) (hm:X.mg x=some (.ref C)) (hb:Binds X.K fd ps ds) (hd:Vals dvs ds) (hx:nu CX X E)
   (ha:PA X (e::es) t) (hdb:(x == ("__debug__":Str))=false:=by decide) (he:starEach (e::es) X.env=(false,eval e X.env)::starEach es X.env:=by rfl) (hpl:(backTo pos (starEach es X.env)).any (·.1)=false:=by rfl) :
   PE X (.Call (.Name x p) (e::es) [] pos) (MM C sp dvs E t):=by
 intro pins s σ H Q I h;refine wpAny_Call_Name_kw (jG I hg hm ?_ hdb);refine PySem.W.callWith_K (h₀:=X.base) I.ok.mod.kin M.kp (mS (ha pos pins s σ H _ I h) fun us s1 vs H1 I1 r q=>⟨I1.kIn,?_⟩) he hpl;exact Pj M F hr hb hd hx I1 r q
end
section
variable {X:Cx} {CX:CXT} {k:Nat} {f C:Addr} {fd:FuncData} {ps ks:List Str} {sp:Sp} {E:XK} {x m:Str} {p pos apos kpos:Pos} {e o:Expr} {es:List Expr} {kws:List Keyword} {te ta:TE} {t tk:TA} {nm:Option Str}
variable {g:List Value->List Value->List Value} {gV:List V->List V->List V}
end
structure FnScope (N P:List Str) (sc:Scope):Prop where
 kind:sc.kind=.function
 co:sc.isCoroutine=false
 gen:sc.isGenerator=false
 nd:N.Nodup
 pre:N.take P.length=P
 par:∀ x∈P,sc.names.lookup x=some .local\/sc.names.lookup x=some .cell
 nofree:∀ y∈sc.names,y.2≠.free
theorem DC {kindOf:Str->Option NameKind} {x:Str}:∀ {binds:List (Str × Value)} {m:Str->Option Value},(∀ v,(x,v) ∉ binds)->bindL kindOf binds m x=m x
 | [],_,_=>rfl
 | (n,v)::r,m,h=>by
   unfold bindL;rw [DC fun w hw=>h w (List.mem_cons_of_mem _ hw)];split
   . have:x≠n:=(by rintro rfl;exact h v List.mem_cons_self);simp [this]
   . rfl
theorem DD {kindOf:Str->Option NameKind} {x:Str}:∀ {binds:List (Str × Value)} {m:Str->Option Value},(∀ v,(x,v) ∉ binds)->bindC kindOf binds m x=m x
 | [],_,_=>rfl
 | (n,v)::r,m,h=>by
   unfold bindC;rw [DD fun w hw=>h w (List.mem_cons_of_mem _ hw)];split
   . rfl
   . have:x≠n:=(by rintro rfl;exact h v List.mem_cons_self);simp [this]
theorem Dm {kindOf:Str->Option NameKind} {x:Str} {v:Value}:∀ {P:List Str} {vs:List Value} {i:Nat} {m:Str->Option Value},P.Nodup->P[i]?=some x->vs[i]?=some v->kindOf x=some .local ->
   bindL kindOf (P.zip vs) m x=some v
 | [],_,_,_,_,h,_,_=>by simp at h
 | _::_,[],_,_,_,_,h,_=>by simp at h
 | p::P,w::vs,0,m,nd,h1,h2,hk=>by
   simp at h1 h2;subst h1;subst h2;show bindL kindOf ((p,w)::P.zip vs) m p=_;unfold bindL;rw [DC fun v hv=>(List.nodup_cons.mp nd).1 (List.of_mem_zip hv).1,if_pos hk];simp
 | p::P,w::vs,i+1,m,nd,h1,h2,hk=>by
   show bindL kindOf ((p,w)::P.zip vs) m x=_;unfold bindL;exact Dm (i:=i) (List.nodup_cons.mp nd).2 (by simpa using h1) (by simpa using h2) hk
theorem Du {kindOf:Str->Option NameKind} {x:Str} {v:Value}:∀ {P:List Str} {vs:List Value} {i:Nat} {m:Str->Option Value},P.Nodup->P[i]?=some x->vs[i]?=some v->kindOf x≠some .local ->
   bindC kindOf (P.zip vs) m x=some v
 | [],_,_,_,_,h,_,_=>by simp at h
 | _::_,[],_,_,_,_,h,_=>by simp at h
 | p::P,w::vs,0,m,nd,h1,h2,hk=>by
   simp at h1 h2;subst h1;subst h2;show bindC kindOf ((p,w)::P.zip vs) m p=_;unfold bindC;rw [DD fun v hv=>(List.nodup_cons.mp nd).1 (List.of_mem_zip hv).1,if_neg hk];simp
 | p::P,w::vs,i+1,m,nd,h1,h2,hk=>by
   show bindC kindOf ((p,w)::P.zip vs) m x=_;unfold bindC;exact Du (i:=i) (List.nodup_cons.mp nd).2 (by simpa using h1) (by simpa using h2) hk
def start (N:List Str) (vs:List V):St:=vs.map some++List.replicate (N.length - vs.length) none
def lg (CX:CXT) (P:Program) (w:World) (K:PySem.W.Frag) (mg:Str->Option Value) (base:Heap) (N:List Str) (qual:Str) (scope:Scope) (f:Addr) (cd:Value) (A:Around) (outer:List Env) (s:Shared) (H:Hp) (E:XK):Cx where
 prog:=P
 w:=w
 K:=K
 mg:=mg
 base:=base
 A:=A.deeper (envOfC qual scope s.heap.objs.size f cd)
 N:=N
 s₀:=s
 H₀:=H
 env:=envOfC qual scope s.heap.objs.size f cd
 outer:=outer
 stack:=envOfC qual scope s.heap.objs.size f cd::outer
 ex:=[]
 calm:=true
 fn:=fun _=>true
 pn:=[]
 xe:=fun e s'=>wpAny (model P w) (A.deeper (envOfC qual scope s.heap.objs.size f cd)) (leaving (envOfC qual scope s.heap.objs.size f cd) e) (fun _ s''=>CX outer H s E e s'') (fun e' s''=>CX outer H s E e' s'') s'
theorem E6 {sc:Scope} {n:Nat} {x:Str} (h:sc.names.lookup x=some .cell):∃ c,(cellsFrom n sc.names []).lookup x=some c:=by
 have q:=PySem.W.cellsFrom_some sc.names n [] (.inl h);exact Option.isSome_iff_exists.mp q
theorem Dr {CX:CXT} {P:Program} {w:World} {K:PySem.W.Frag} {mg:Str->Option Value} {base:Heap} {N ps:List Str} {qual:Str} {scope:Scope} {f:Addr} {cd:Value} {A:Around} {outer:List Env} {s s1:Shared} {H:Hp} {E:XK} {us:List Value} {vs:List V}
   (S:FnScope N ps scope) (hd:A.handled=none) (e0:Env0 P w K mg base A outer s H) (hl:vs.length=ps.length) (r:Vals vs us)
   (x:InCallC s s.heap.objs.size (bindL (envOfC qual scope s.heap.objs.size f cd).kindOf (ps.zip us) fun _=>none) (cellsFrom (s.heap.objs.size+1) scope.names []) (bindC (envOfC qual scope s.heap.objs.size f cd).kindOf (ps.zip us) fun _=>none) s1) :
   Inv (lg CX P w K mg base N qual scope f cd A outer s H E) [] (start N vs) H s1:=by
 have hpl:ps.length<=N.length:=by have:=congrArg List.length S.pre;rw [List.length_take] at this;omega
 obtain ⟨h1,tk,rfl,hk⟩:=x.done;have noA:∀ b:Addr,b ∉ (lg CX P w K mg base N qual scope f cd A outer s H E).ex:=fun b z=>absurd (show b∈([]:List Addr) from z) (by simp);refine ⟨⟨e0.mod,S.kind,rfl,rfl,Nat.le_refl _,fun y z c h1 h2=>?_,fun y hy=>?_,fun y c _ h=>?_,fun _=>hd,Around.frames_deeper e0.frames,.inr ⟨rfl,rfl⟩,fun b z=>absurd z (noA b),e0.bs,e0.bsz,fun b _ _=>noA b,fun b z=>absurd z (noA b),e0.funs,e0.frf⟩,
   rfl,e0.bare,Un.kept hk,⟨_,x.toInCall.ns,fun i y v h1 h2 h3=>?_⟩,fun y c h=>⟨_,x.cell y c h⟩,e0.hok.fresh (Nat.le_refl _),fun y c h=>?_,fun p hp=>absurd (show p∈([]:List (Addr × Obj)) from hp) (by simp),e0.hok.kept hk,?_⟩
 . exact name_of_addr x.apart (PySem.mem_of_lookup h1) (PySem.mem_of_lookup h2)
 . have hy:scope.names.lookup y=some .cell\/scope.names.lookup y=some .free:=hy;rcases hy with hy|hy
   . exact E6 hy
   . exact absurd rfl (S.nofree _ (PySem.mem_of_lookup hy))
 . exact Nat.le_of_lt (x.above y c (PySem.mem_of_lookup h))
 . have hi:i<vs.length:=by
     unfold start at h2;by_cases hi:i<vs.length
     . exact hi
     . rw [List.getElem?_append_right (by simpa using hi)] at h2;rw [List.getElem?_replicate] at h2;split at h2 <;> cases h2
   have ha:vs[i]?=some v:=by
     unfold start at h2;rw [List.getElem?_append_left (by simpa using hi),List.getElem?_map] at h2;cases e:vs[i]? with
     | none=>rw [e] at h2;cases h2
     | some a=>rw [e] at h2;cases h2;rfl
   obtain ⟨u,hu,rv⟩:=r.get ha;have hp:ps[i]?=some y:=by
     rw [<- S.pre,List.getElem?_take_of_lt (by omega)];exact h1
   have ndP:ps.Nodup:=by rw [<- S.pre];exact S.nd.sublist (List.take_sublist _ _)
   refine ⟨u,rv,?_⟩;rcases S.par y (List.mem_of_getElem? hp) with k|k
   . exact .inl ⟨k,Dm ndP hp hu k⟩
   . obtain ⟨c,e⟩:=E6 (n:=s.heap.objs.size+1) k;refine .inr ⟨.inl k,c,e,?_⟩;have q:=x.cell y c e;rw [Du ndP hp hu (by show scope.names.lookup y≠_;rw [k];decide)] at q;exact q
 . exact e0.hok.fresh (Nat.le_of_lt (x.above y c (PySem.mem_of_lookup h)))
 . unfold start;show _=N.length;rw [List.length_append,List.length_map,List.length_replicate];omega
theorem RO {CX:CXT} {P:Program} {w:World} {K:PySem.W.Frag} {mg:Str->Option Value} {base:Heap} {k:Nat} {f:Addr} {name qual:Str} {params:Arguments} {body:List Stmt} {scope:Scope} {dV kV doc pm cdv ct oc:Value} {an od:Option Addr}
   {osl:Array (Option Value)} {N ps:List Str} {sp:Sp} (lk:K.lookup f=some ⟨oc,od,.func (PySem.W.fnOf name qual params body scope dV kV doc pm an cdv ct),osl⟩) (hcd:PySem.W.codeIn K cdv qual=true) (S:FnScope N ps scope)
   (len:∀ vs H Q E,sp vs H Q E->vs.length=ps.length)
   (hbody:∀ (A:Around) (outer:List Env) (s:Shared) (H:Hp) (vs:List V) (Q:VK) (E:XK),Room k (A.deeper (envOfC qual scope s.heap.objs.size f cdv))->sp vs H Q E ->
     ∃ t,PSs (lg CX P w K mg base N qual scope f cdv A outer s H E) body t/\t { nx:=fun _ H'=>Q .non H',rt:=Q } (start N vs) H) :
   FnOk P w K mg base CX (k+1) f (PySem.W.fnOf name qual params body scope dV kV doc pm an cdv ct) ps sp:=by
 refine ⟨len,fun A outer s H args us vs Q E hr e0 hb r hsp=>?_⟩;have hl:=len _ _ _ _ hsp;have KX:K.In s.heap:=e0.mod.kin.keeps fun b o e=>(e0.bs b o e).1;have lim:s.heap.NoLimit:=e0.mod.nolimit.keeps fun b o e=>(e0.bs b o e).1;have hkind:∀ y∈ps.zip us,scope.names.lookup y.1=some .local\/(scope.names.lookup y.1=some .cell/\((cellsFrom (s.heap.objs.size+1) scope.names []).lookup y.1).isSome=true):=fun ⟨n,v⟩ hy=>by
   rcases S.par n (List.of_mem_zip hy).1 with q|q
   . exact .inl q
   . exact .inr ⟨q,PySem.W.cellsFrom_some _ _ _ (.inl q)⟩
 refine codeAny_call_function hr.depth (KX _ _ lk) rfl S.co S.gen rfl (PySem.W.codeRec_of KX hcd) (hb _ _ _ _ ?_);refine wpAny_newFunctionEnv_cells S.kind hkind fun env he s1 x=>?_;subst he;refine ⟨lim.keeps x.toInCall.keep,codeAny_func ?_⟩;obtain ⟨t,ht,hq⟩:=hbody A outer s H vs Q E (hr.deeper _) hsp;have I:Inv (lg CX P w K mg base N qual scope f cdv A outer s H E) [] (start N vs) H s1:=Dr S hr.hd e0 hl r x;refine wpAny_mono (ht [] s1 (start N vs) H _ I hq) (fun fl s' hs=>?_) fun e s' hs=>hs;have fin:∀ {σ':St} {H':Hp} {v:V} {u:Value},Inv (lg CX P w K mg base N qual scope f cdv A outer s H E) [] σ' H' s'->RelV v u->Q v H'->CE outer P w H s Q u s' :=
   fun {σ' H' v u} J rv q=>⟨v,H',J.os,J.bare,J.base,J.hok,rv,q⟩
 cases fl with
 | ret u =>
   obtain ⟨v,σ',H',J,rv,q⟩:=hs;exact fin J rv q
 | next =>
   obtain ⟨σ',H',J,q⟩:=hs;exact fin (v:=V.non) (u:=Value.none) J rfl q
 | brk =>
   obtain ⟨_,_,_,q⟩:=hs;exact False.elim q
 | cont =>
   obtain ⟨_,_,_,q⟩:=hs;exact False.elim q
end L2
namespace L2
open PySem PySem.Spec PyProof.Rows
section
variable {X:Cx} {x:Str} {p pos:Pos} {e:Expr} {es:List Expr} {t:TA} {id T:String} {r:List V->Hp->VK->Prop}
def tCB (r:List V->Hp->VK->Prop) (t:TA):TE:=fun σ H Q=>t σ H fun vs H1=>r vs H1 Q
theorem ba (hc:jF X (.builtin id) r) (hg:Gl X x) (hm:X.mg x=none) (hv:bootBuiltins x=some (.builtin id)) (ha:PA X (e::es) t) (hn:x≠"__name__":=by decide) (hdb:(x == ("__debug__":Str))=false:=by decide)
   (he:starEach (e::es) X.env=(false,eval e X.env)::starEach es X.env:=by rfl) (hpl:(backTo pos (starEach es X.env)).any (·.1)=false:=by rfl):PE X (.Call (.Name x p) (e::es) [] pos) (tCB r t):=by
 intro pins s σ H Q I h;refine wpAny_Call_Name_kw (qv I hg hm hv ?_ hn hdb);exact PyProof.Rows.callWith_builtin1 (mS (ha pos pins s σ H _ I h) fun us s1 vs H1 I1 r1 q1=>hc pins s1 σ H1 vs us Q I1 r1 q1) he hpl
theorem cQ (hc:jF X (.type T) r) (hg:Gl X x) (hm:X.mg x=none) (hv:bootBuiltins x=some (.type T)) (ha:PA X (e::es) t) (hn:x≠"__name__":=by decide) (hdb:(x == ("__debug__":Str))=false:=by decide)
   (he:starEach (e::es) X.env=(false,eval e X.env)::starEach es X.env:=by rfl) (hpl:(backTo pos (starEach es X.env)).any (·.1)=false:=by rfl):PE X (.Call (.Name x p) (e::es) [] pos) (tCB r t):=by
 intro pins s σ H Q I h;refine wpAny_Call_Name_kw (qv I hg hm hv ?_ hn hdb);exact PyProof.Rows.callWith_type1 (mS (ha pos pins s σ H _ I h) fun us s1 vs H1 I1 r1 q1=>hc pins s1 σ H1 vs us Q I1 r1 q1) he hpl
end
end L2
namespace HT
open PySem PyProof.Rows
section
open PySem.SeqAt
open PySem.AutoSeq1 (wpAny_loadPart')
open PySem.MeetsSeq PySem.MeetsSeq2 PySem.MeetsSeq3
end
section
variable {prog:Program} {w:World} {A:Around} {E:Value->Shared->Prop} {s:Shared}
end
end HT
namespace L2
open PySem PySem.Spec PyProof.Rows
abbrev TO:=St->Hp->(Option Int->Hp->Prop)->Prop
def PO (X:Cx) (e:Option Expr) (t:TO):Prop :=
 ∀ (pins:List (Addr × Obj)) (s:Shared) (σ:St) (H:Hp) (Q:Option Int->Hp->Prop),Inv X pins σ H s->t σ H Q ->
   wpAny (model X.prog X.w) X.A (evalPart e X.env) (fun u s'=>∃ o H',Inv X pins σ H' s'/\IsPart u o/\Q o H') X.xe s
section
variable {X:Cx} {e:Expr} {te:TE} {lo hi:Option Expr} {tl th:TO} {pos p2:Pos}
end
end L2
namespace L2
open PySem PySem.Spec PyProof.Rows
def ixN (n:Nat) (i:Int):Option Nat:=if 0<=i then (if i<n then some i.toNat else none) else if -(n:Int)<=i then some (i+n).toNat else none
def atI {α:Type} (xs:List α) (i:Int):Option α:=(ixN xs.length i).bind fun j=>xs[j]?
theorem IJ {n:Nat} {i:Int} {j:Nat} (h:ixN n i=some j):seqIndex? i n=some j/\j<n/\-(n:Int)<=i/\i<n:=by
 unfold ixN at h;by_cases h0:0<=i
 . rw [if_pos h0] at h;by_cases h1:i<n
   . rw [if_pos h1] at h;have e:i.toNat=j:=Option.some.inj h;exact ⟨by rw [seqIndex_of h0 h1,e],by omega,by omega,h1⟩
   . rw [if_neg h1] at h;cases h
 . rw [if_neg h0] at h;by_cases h1:-(n:Int)<=i
   . rw [if_pos h1] at h;have e:(i+n).toNat=j:=Option.some.inj h;exact ⟨by rw [seqIndex_neg (by omega) h1,e],by omega,h1,by omega⟩
   . rw [if_neg h1] at h;cases h
theorem C6 {α:Type} {xs:List α} {i:Int} {v:α} (h:atI xs i=some v):∃ j,seqIndex? i xs.length=some j/\xs[j]?=some v/\j<xs.length/\-(xs.length:Int)<=i/\i<xs.length:=by
 unfold atI at h;cases e:ixN xs.length i with
 | none=>rw [e] at h;cases h
 | some j =>
   rw [e] at h;obtain ⟨h1,h2,h3,h4⟩:=IJ e;exact ⟨j,h1,h,h2,h3,h4⟩
theorem Su {α:Type} {xs:List α} {j:Nat} {v:α} (h:xs[j]?=some v):atI xs (j:Int)=some v:=by
 have hj:j<xs.length:=(List.getElem?_eq_some_iff.mp h).1;have e:ixN xs.length (j:Int)=some j:=by
   unfold ixN;rw [if_pos (by omega),if_pos (by omega)];simp
 unfold atI;rw [e];exact h
theorem Ar {α:Type} (xs:List α) (v:α):atI (xs++[v]) (-1)=some v:=by
 have hl:(xs++[v]).length=xs.length+1:=by simp
 have e:ixN (xs++[v]).length (-1)=some xs.length:=by
   unfold ixN;rw [hl,if_neg (by decide),if_pos (by omega)]
   congr 1
   omega
 unfold atI;rw [e];show (xs++[v])[xs.length]?=some v;simp
def Sc (b:Expr):Prop:=∀ o i,subscripted b false o i=operate [o,i] (getItem o i)
def IxR (X:Cx) (r:R2):Prop :=
 ∀ (value slice:Expr) (pins:List (Addr × Obj)) (s:Shared) (σ:St) (H:Hp) (x y:V) (v u:Value) (Q:VK),Inv X pins σ H s->RelV x v->RelV y u->r x y H Q ->
   subscripted slice false v u=operate [v,u] (getItem v u)->wpAny (model X.prog X.w) X.A (subscriptTail value slice v u) (EP X pins σ Q) X.xe s
def MtR (X:Cx) (id:String) (r:V->List V->Hp->VK->Prop):Prop :=
 ∀ (pins:List (Addr × Obj)) (s:Shared) (σ:St) (H:Hp) (x:V) (xs:List V) (v:Value) (us:List Value) (Q:VK),Inv X pins σ H s->RelV x v->Vals xs us->r x xs H Q ->
   wpAny (model X.prog X.w) X.A (call (.builtin id) (v::us)) (EP X pins σ Q) X.xe s
section
variable {X:Cx} {a b:Expr} {ta tb:TE} {pos:Pos}
theorem au {r:R2} (hr:IxR X r) (ha:PE X a ta) (hb:PE X b tb) (hs:Sc b):PE X (.Subscript a b pos) (tOp r ta tb):=by
 intro pins s σ H Q I h;exact Subscript_ (P8 ha hb I h fun v u s2 x y H2 I2 rx ry q=>hr a b pins s2 σ H2 x y v u Q I2 rx ry q (hs _ _))
def EL (K:PySem.W.Frag):R2:=fun x y H Q=>∃ p xs i v,x=.ref p/\y=.int i/\SqL K H p xs/\atI xs i=some v/\Q v H
def PM (K:PySem.W.Frag):R2:=fun x y H Q=>∃ p xs i v,x=.ref p/\y=.int i/\SqT K H p xs/\atI xs i=some v/\Q v H
theorem av:IxR X (EL X.K):=by
 intro value slice pins s σ H x y v u Q I rx ry h hs;obtain ⟨p,xs,i,z,rfl,rfl,hq,he,q⟩:=h;cases rx;obtain ⟨t,rfl⟩:=ry;obtain ⟨its,r,pl,hz⟩:=I.list hq;obtain ⟨j,h1,h2,h3,h4,h5⟩:=C6 he;obtain ⟨w,ew,rw'⟩:=r.get h2;have hl:=r.length;have hn:=pB;have fin:EP X pins σ Q w s:=⟨z,H,I,rw',q⟩;by_cases h0:0<=i
 . have hj:i.toNat=j:=by
     rw [seqIndex_of h0 h5] at h1;exact Option.some.inj h1
   exact item_listR pl.isList h0 (by omega) (by rw [hj];simpa using ew) fin hs
 . have hj:(i+(its.toArray.size:Int)).toNat=j:=by
     rw [seqIndex_neg (by omega) h4] at h1;rw [List.size_toArray,<- hl];exact Option.some.inj h1
   exact subscriptTail_builtinR (x:=w) pl.isList.typeIs slot_list_getitem.lookup
     (wpAny_getItem_list_neg (Q:=fun r s'=>r=w/\EP X pins σ Q r s') pl.isList (by omega) (by rw [List.size_toArray] <;> omega) (by omega) (by rw [hj];simpa using ew) ⟨rfl,fin⟩) hs
theorem bo:IxR X (PM X.K):=by
 intro value slice pins s σ H x y v u Q I rx ry h hs;obtain ⟨p,xs,i,z,rfl,rfl,hq,he,q⟩:=h;cases rx;obtain ⟨t,rfl⟩:=ry;obtain ⟨its,r,pl,hz⟩:=I.tuple hq;obtain ⟨j,h1,h2,h3,h4,h5⟩:=C6 he;obtain ⟨w,ew,rw'⟩:=r.get h2;have hl:=r.length;have hn:=pB;have fin:EP X pins σ Q w s:=⟨z,H,I,rw',q⟩;exact subscriptTail_builtinR (x:=w) pl.typeIs slot_tuple_getitem.lookup
   (getItem_tuple (j:=j) (Q:=fun r s'=>r=w/\EP X pins σ Q r s') pl (by omega) (by omega) (by rw [List.size_toArray,<- hl];exact h1) (by simpa using ew) ⟨rfl,fin⟩) hs
theorem LX (its:List Value) (n j:Nat) (u:Value):Obj.mapSeq (·.setIfInBounds j u) { cls:=.type "list",data:=.seq its.toArray n }={ cls:=.type "list",data:=.seq (its.set j u).toArray n }:=by
 simp [Obj.mapSeq]
theorem Inv.lst {pins:List (Addr × Obj)} {σ:St} {H:Hp} {s:Shared} {p:Addr} {xs:List V} (I:Inv X pins σ H s) (h:H p=some (.lst xs)) :
   ∃ (its:List Value) (n:Nat),Vals xs its/\s.heap.get? p=some { cls:=.type "list",data:=.seq its.toArray n }/\xs.length<=sizeLine:=by
 obtain ⟨z,its,n,r,e⟩:=I.hok p _ h;exact ⟨its,n,r,e,z⟩
theorem Inv.lstUpd {pins:List (Addr × Obj)} {σ:St} {H:Hp} {s:Shared} {p:Addr} {xs ys:List V} {its its':List Value} {n n':Nat} {f:Obj->Obj} (I:Inv X pins σ H s) (h:H p=some (.lst xs))
   (ho:s.heap.get? p=some { cls:=.type "list",data:=.seq its.toArray n }) (hf:f { cls:=.type "list",data:=.seq its.toArray n }={ cls:=.type "list",data:=.seq its'.toArray n' }) (r:Vals ys its') (hz:ys.length<=sizeLine) (t:Nat) :
   Inv X pins σ (upd H p (.lst ys)) { s with heap:=s.heap.update p f,toks:=t }:=by
 have e:(s.heap.update p f).get? p=some { cls:=.type "list",data:=.seq its'.toArray n' }:=by
   rw [Heap.get?_update_self f ho (by rw [hf] <;> rfl),hf]
 refine I.write (x:=p) (e:=p) (by rw [h];trivial) (.inl rfl) (fun b u hb q=>(Heap.get?_update_other _ _ (Ne.symm hb)).trans q) ⟨_,e⟩ ?_;exact ⟨hz,its',n',r,e⟩
def rSetL:V->V->V->Hp->(Hp->Prop)->Prop:=fun o i v H Q=>∃ p xs k j,o=.ref p/\i=.int k/\H p=some (.lst xs)/\ixN xs.length k=some j/\Q (upd H p (.lst (xs.set j v)))
theorem iY:Qe X rSetL:=by
 intro pins s σ H o i v ov iv u Q I ro ri rv h;obtain ⟨p,xs,k,j,rfl,rfl,hp,hj,q⟩:=h;cases ro;obtain ⟨t,rfl⟩:=ri;obtain ⟨its,n,r,ho,hz⟩:=I.lst hp;obtain ⟨h1,h2,h3,h4⟩:=IJ hj;have hl:=r.length;have hn:=pB;have I':Inv X pins σ (upd H p (.lst (xs.set j v))) { s with heap:=s.heap.update p (Obj.mapSeq (·.setIfInBounds j u)) } :=
   I.lstUpd hp ho (LX its n j u) (r.set rv j) (by rw [List.length_set];exact hz) s.toks
 by_cases h0:0<=k
 . have hk:k.toNat=j:=by
     rw [seqIndex_of h0 h4] at h1;exact Option.some.inj h1
   exact PySem.W.ki_setAt ho h0 (by omega) (by rw [List.size_toArray,<- hl];exact h4) (by rw [hk];exact ⟨_,I',q⟩)
 . have hk:(k+(its.toArray.size:Int)).toNat=j:=by
     rw [seqIndex_neg (by omega) h3] at h1;rw [List.size_toArray,<- hl];exact Option.some.inj h1
   exact PySem.W.ki_setBack ho (by omega) (by rw [List.size_toArray,<- hl];exact h3) (by omega) (by rw [hk];exact ⟨_,I',q⟩)
def oN:V->Bool
 | .non=>true
 | .bl _=>true
 | .int _=>true
 | .str _=>true
 | _=>false
def eqV:V->V->Bool
 | .non,.non=>true
 | .bl a,.bl b=>a == b
 | .bl a,.int b=>(if a then 1 else 0) == b
 | .int a,.bl b=>a == (if b then 1 else 0)
 | .int a,.int b=>a == b
 | .str a,.str b=>a == b
 | _,_=>false
theorem Tj {A:Around} {s:Shared} {y x:V} {u v:Value} (ry:RelV y u) (rx:RelV x v) (fy:oN y=true) (fx:oN x=true):SeqAt.EqAt A s u v (eqV y x):=by
 cases y with
 | non =>
   cases ry;cases x with
   | non=>cases rx;exact SeqAt.EqAt.same _
   | bl b=>cases rx;exact SeqAt.EqAt.none_bool b
   | int b=>obtain ⟨t,rfl⟩:=rx;exact SeqAt.EqAt.none_int b t
   | str b=>obtain ⟨t,rfl⟩:=rx;exact SeqAt.EqAt.none_str b t
   | _=>exact absurd (show false=true from fx) Bool.false_ne_true
 | bl a =>
   cases ry;cases x with
   | non=>cases rx;exact SeqAt.EqAt.bool_none a
   | bl b=>cases rx;exact SeqAt.EqAt.bool_bool a b
   | int b=>obtain ⟨t,rfl⟩:=rx;exact SeqAt.EqAt.bool_int a b t
   | str b=>obtain ⟨t,rfl⟩:=rx;exact SeqAt.EqAt.bool_str a b t
   | _=>exact absurd (show false=true from fx) Bool.false_ne_true
 | int a =>
   obtain ⟨t',rfl⟩:=ry;cases x with
   | non=>cases rx;exact SeqAt.EqAt.int_none a t'
   | bl b=>cases rx;exact SeqAt.EqAt.int_bool a t' b
   | int b=>obtain ⟨t,rfl⟩:=rx;exact SeqAt.EqAt.int_int a t' b t
   | str b=>obtain ⟨t,rfl⟩:=rx;exact SeqAt.EqAt.int_str a t' b t
   | _=>exact absurd (show false=true from fx) Bool.false_ne_true
 | str a =>
   obtain ⟨t',rfl⟩:=ry;cases x with
   | non=>cases rx;exact SeqAt.EqAt.str_none a t'
   | bl b=>cases rx;exact SeqAt.EqAt.str_bool a t' b
   | int b=>obtain ⟨t,rfl⟩:=rx;exact SeqAt.EqAt.str_int a t' b t
   | str b=>obtain ⟨t,rfl⟩:=rx;exact SeqAt.EqAt.str_str a t' b t
   | _=>exact absurd (show false=true from fx) Bool.false_ne_true
 | _=>exact absurd (show false=true from fy) Bool.false_ne_true
def eqU (x:V) (u:Value):Bool:=match u with
 | .none=>eqV .non x
 | .bool b=>eqV (.bl b) x
 | .int i _=>eqV (.int i) x
 | .str z _=>eqV (.str z) x
 | _=>false
theorem OA {x y:V} {u:Value} (r:RelV y u) (f:oN y=true):eqU x u=eqV y x:=by
 cases y with
 | non=>cases r;rfl
 | bl b=>cases r;rfl
 | int i=>obtain ⟨t,rfl⟩:=r;rfl
 | str z=>obtain ⟨t,rfl⟩:=r;rfl
 | _=>exact absurd (show false=true from f) Bool.false_ne_true
theorem Cy {x:V}:∀ {xs:List V} {us:List Value},Vals xs us->xs.all oN=true->us.any (eqU x)=xs.any fun y=>eqV y x
 | _,_,.nil,_=>rfl
 | y::xs,u::us,.cons r t,f=>by
   rw [List.all_cons,Bool.and_eq_true] at f;rw [List.any_cons,List.any_cons,OA r f.1,Cy t f.2]
theorem Az {A:Around} {s:Shared} {x:V} {v:Value} (rx:RelV x v) (fx:oN x=true):∀ {xs:List V} {us:List Value},Vals xs us->xs.all oN=true->∀ u∈us,SeqAt.EqAt A s u v (eqU x u)
 | _,_,.nil,_=>fun u hu=>by cases hu
 | y::xs,u::us,.cons r t,f=>fun u' hu=>by
   rw [List.all_cons,Bool.and_eq_true] at f;rcases List.mem_cons.mp hu with rfl|hu
   . rw [OA r f.1];exact Tj r rx f.1 fx
   . exact Az rx fx t f.2 u' hu
def inV (x:V) (xs:List V):Bool:=xs.any fun y=>eqV y x
def rIn (K:PySem.W.Frag) (neg:Bool):R2:=fun x y H Q=>∃ p xs,y=.ref p/\(SqL K H p xs\/SqT K H p xs)/\oN x=true/\xs.all oN=true/\Q (.bl (if neg then !inV x xs else inV x xs)) H
theorem Oi:OpR X (compareOp .In) (rIn X.K false):=by
 intro pins s σ H x y v u Q I rx ry h;obtain ⟨p,xs,rfl,hq,fx,fs,q⟩:=h;cases ry;rcases hq with hq|hq
 . obtain ⟨its,r,pl,hz⟩:=I.list hq;refine SeqAt.in_listAt (eqU x) pl.isList (fun w hw=>Az rx fx r fs w (by simpa using hw)) ⟨.bl _,H,I,rfl,?_⟩;rw [show its.toArray.any (eqU x)=its.any (eqU x) by simp,Cy r fs];exact q
 . obtain ⟨its,r,pl,hz⟩:=I.tuple hq;refine SeqAt.in_tupleAt (eqU x) pl (fun w hw=>Az rx fx r fs w (by simpa using hw)) ⟨.bl _,H,I,rfl,?_⟩;rw [show its.toArray.any (eqU x)=its.any (eqU x) by simp,Cy r fs];exact q
theorem bL:jF X (.builtin "len") (fun xs H Q=>∃ p ys,xs=[.ref p]/\(SqL X.K H p ys\/SqT X.K H p ys)/\Q (.int ys.length) H):=by
 intro pins s σ H xs us Q I r h;obtain ⟨p,ys,rfl,hq,q⟩:=h;obtain ⟨u,rfl,rx⟩:=qP r;cases rx;have hn:=pB;rcases hq with hq|hq
 . obtain ⟨its,r',pl,hz⟩:=I.list hq;have hlen:=r'.length;exact Calls.call_len_list pl.isList (by simp only [List.size_toArray] <;> omega) ⟨.int ys.length,H,I.tok _,⟨s.toks+1,by rw [List.size_toArray,hlen]⟩,q⟩
 . obtain ⟨its,r',pl,hz⟩:=I.tuple hq;have hlen:=r'.length;exact len_tuple pl (by simp only [List.size_toArray] <;> omega) ⟨.int ys.length,H,I.tok _,⟨s.toks+1,by rw [List.size_toArray,hlen]⟩,q⟩
theorem jb:jF X (.type "list") (fun xs H Q=>∃ p ys,xs=[.ref p]/\(SqL X.K H p ys\/SqT X.K H p ys)/\∀ l,H l=none->Q (.ref l) (upd H l (.lst ys))):=by
 intro pins s σ H xs us Q I r h;obtain ⟨p,ys,rfl,hq,q⟩:=h;obtain ⟨u,rfl,rx⟩:=qP r;cases rx;have fin:∀ (its:List Value),Vals ys its->ys.length<=sizeLine->∀ (h':Heap) (c':Nat),(∀ b o',s.heap.get? b=some o'->h'.get? b=some o') ->
     h'.get? s.heap.objs.size=some { cls:=.type "list",dict:=none,data:=.seq its.toArray c',slots:=#[] }->EP X pins σ Q (.ref s.heap.objs.size) { s with heap:=h' }:=fun its r' hz h' c' kp e =>
   ⟨.ref s.heap.objs.size,_,I.laid (t':=s.toks) kp (Nat.le_refl _) (show ObjOk X.prog X.w _ h' _ (.lst ys) from ⟨hz,its,c',r',e⟩),rfl,q _ (I.hok.fresh (Nat.le_refl _))⟩
 rcases hq with hq|hq
 . obtain ⟨its,r',pl,hz⟩:=I.list hq;have hlen:=r'.length;obtain ⟨o,ho,hc,n,hd⟩:=pl.isList;exact call_list_seq p (.inl rfl) ho hc hd (fun h' c' kp e=>fin its r' hz h' c' kp e) (by simp only [List.size_toArray] <;> omega)
 . obtain ⟨its,r',pl,hz⟩:=I.tuple hq;have hlen:=r'.length;obtain ⟨o,ho,hc,n,hd⟩:=pl;exact call_list_seq p (.inr rfl) ho hc hd (fun h' c' kp e=>fin its r' hz h' c' kp e) (by simp only [List.size_toArray] <;> omega)
theorem d0:jF X (.type "tuple") (fun xs H Q=>∃ p ys,xs=[.ref p]/\((SqL X.K H p ys/\∀ l,H l=none->Q (.ref l) (upd H l (.tup ys)))\/(SqT X.K H p ys/\Q (.ref p) H))):=by
 intro pins s σ H xs us Q I r h;obtain ⟨p,ys,rfl,h⟩:=h;obtain ⟨u,rfl,rx⟩:=qP r;cases rx;rcases h with ⟨hq,q⟩|⟨hq,q⟩
 . obtain ⟨its,r',pl,hz⟩:=I.list hq;have hlen:=r'.length;refine call_tuple_list pl.isList (fun h' kp=>?_) (by simp only [List.size_toArray] <;> omega);have I1:Inv X pins σ H { s with heap:=h' }:=I.kept (t':=s.toks) kp;have I2:Inv X pins σ (upd H h'.objs.size (.tup ys)) { s with heap:=h'.push { cls:=.type "tuple",data:=.seq its.toArray } } :=
     I1.laid (t':=s.toks) (fun b o e=>Heap.get?_push_of_some _ e) (Nat.le_refl _) (show ObjOk X.prog X.w _ _ _ (.tup ys) from ⟨hz,its,r',IsTup.new _ _⟩)
   exact ⟨.ref h'.objs.size,_,I2,rfl,q _ (I1.hok.fresh (Nat.le_refl _))⟩
 . obtain ⟨its,r',pl,hz⟩:=I.tuple hq;exact call_tuple_same pl ⟨.ref p,H,I,rfl,q⟩
def tyV (K:PySem.W.Frag) (T:String) (x:V) (H:Hp):Prop:=match x with
 | .str _=>T="str"
 | .int _=>T="int"
 | .ref p=>(T="list"/\∃ xs,SqL K H p xs)\/(T="tuple"/\∃ o,K.lookup p=some o/\o.cls=.type "tuple"/\o.dict=none) \/
     (T="dict"/\((∃ kvs,H p=some (.dK kvs))\/∃ kvs,H p=some (.dT kvs)))\/(T="set"/\∃ S n,H p=some (.set S n))
 | _=>False
theorem Om {pins:List (Addr × Obj)} {σ:St} {H:Hp} {s:Shared} {T:String} {x:V} {v:Value} (I:Inv X pins σ H s) (r:RelV x v) (ty:tyV X.K T x H) :
   s.TypeIs v T/\∀ a,v=.ref a->∃ ob,s.heap.get? a=some ob/\ob.dict=none:=by
 cases x with
 | str z =>
   obtain ⟨t,rfl⟩:=r;cases (show T="str" from ty);exact ⟨typeIs_str s z t,fun _ e=>nomatch e⟩
 | int i =>
   obtain ⟨t,rfl⟩:=r;cases (show T="int" from ty);exact ⟨typeIs_int s i t,fun _ e=>nomatch e⟩
 | ref p =>
   cases r;rcases ty with ⟨rfl,xs,hq⟩|⟨rfl,o,hk,hc,hd⟩|⟨rfl,hk⟩|⟨rfl,S,n,hk⟩
   . obtain ⟨its,_,pl,_⟩:=I.list hq;refine ⟨pl.isList.typeIs,fun a e=>?_⟩;cases e;obtain ⟨o,n,e,c,hd,_⟩:=pl;exact ⟨o,e,hd⟩
   . refine ⟨⟨o,I.kIn p o hk,hc⟩,fun a e=>?_⟩;cases e;exact ⟨o,I.kIn _ o hk,hd⟩
   . have z:∃ o,s.heap.get? p=some o/\o.ExactDict:=by
       rcases hk with ⟨kvs,hk⟩|⟨kvs,hk⟩
       . obtain ⟨_,_,_,_,o,_,_,e,ex,_⟩:=I.hok p _ hk;exact ⟨o,e,ex⟩
       . obtain ⟨_,_,_,_,o,_,_,e,ex,_⟩:=I.hok p _ hk;exact ⟨o,e,ex⟩
     obtain ⟨o,e,ex⟩:=z;refine ⟨⟨o,e,ex.1⟩,fun a e2=>?_⟩;cases e2;exact ⟨o,e,ex.2.1⟩
   . obtain ⟨o,_,_,_,e,ex,_⟩:=I.hok p _ hk;refine ⟨⟨o,e,ex.1⟩,fun a e2=>?_⟩;cases e2;exact ⟨o,e,ex.2.1⟩
 | _=>exact False.elim ty
def Q0 (K:PySem.W.Frag) (T:String) (r:V->List V->Hp->VK->Prop) (to:TE):TE:=fun σ H Q=>to σ H fun x H1=>tyV K T x H1/\r x [] H1 Q
def tBM (K:PySem.W.Frag) (T:String) (r:V->List V->Hp->VK->Prop) (to:TE) (t:TA):TE:=fun σ H Q=>to σ H fun x H1=>tyV K T x H1/\t σ H1 fun xs H2=>r x xs H2 Q
variable {o e:Expr} {es:List Expr} {to:TE} {t:TA} {name:Str} {apos cpos:Pos} {T id:String} {r:V->List V->Hp->VK->Prop}
theorem FZ (pa:PlainAttrs T) (slot:Slot T name id) (hty:typeOf (.builtin id)=pure (.type "method_descriptor")) (hm:MtR X id r) (ho:PE X o to)
   (hbase:attributeBase o name X.env (eval o X.env)=eval o X.env:=by rfl) (hline:(apos.endLine == cpos.line)=true:=by rfl):PE X (.Call (.Attribute o name apos) [] [] cpos) (Q0 X.K T r to):=by
 intro pins s σ H Q I h;refine wpAny_Call_method0_late hbase hline (bn (ho pins s σ H _ I h) fun v s1 x H1 I1 r1 ⟨ty,q1⟩=>?_);obtain ⟨h1,h2⟩:=Om I1 r1 ty;exact ⟨T,id,pa,slot,hty,h1,h2,Calls.callWith_builtin rfl (PySem.evalArgs_none (hm pins s1 σ H1 x [] v [] Q I1 r1 .nil q1))⟩
theorem lN (pa:PlainAttrs T) (slot:Slot T name id) (hty:typeOf (.builtin id)=pure (.type "method_descriptor")) (hm:MtR X id r) (ho:PE X o to) (ha:PA X (e::es) t)
   (hbase:attributeBase o name X.env (eval o X.env)=eval o X.env:=by rfl)
   (hfew:((backTo cpos (starEach (e::es) X.env)).all (fun x=>!x.1) && (backToKw cpos (keywordEach [] X.env)).all (fun x=>x.1.isSome)
     && decide ((e::es).length+([]:List Keyword).length+(if ([]:List Keyword).isEmpty then 0 else 1)<30))=true:=by rfl)
   (hline:(apos.endLine == cpos.line)=true:=by rfl) (hs:starEach (e::es) X.env=(false,eval e X.env)::starEach es X.env:=by rfl) (hplain:(backTo cpos (starEach es X.env)).any (·.1)=false:=by rfl) :
   PE X (.Call (.Attribute o name apos) (e::es) [] cpos) (tBM X.K T r to t):=by
 intro pins s σ H Q I h;refine wpAny_Call_method_late hbase hfew hline rfl (bn (ho pins s σ H _ I h) fun v s1 x H1 I1 r1 ⟨ty,q1⟩=>?_);obtain ⟨h1,h2⟩:=Om I1 r1 ty;refine ⟨T,id,pa,slot,hty,h1,h2,?_⟩;have hA:=ha cpos pins s1 σ H1 _ I1 q1;rw [hs] at hA ⊢;refine Calls.callWith_builtin (by show (false || (backTo cpos (starEach es X.env)).any (·.1))=false;rw [hplain] <;> rfl) (Calls.evalArgs_plain ?_);exact thn hA fun us s2 ⟨vs,H2,I2,r2,q2⟩=>hm pins s2 σ H2 x vs v us Q I2 r1 r2 q2
end
end L2
namespace L2
open PySem PySem.Spec PyProof.Rows
def MtM (X:Cx) (id:String) (r:V->List V->Hp->VK->Prop):Prop :=
 ∀ (pins:List (Addr × Obj)) (s:Shared) (σ:St) (H:Hp) (x:V) (xs:List V) (v:Value) (us:List Value) (Q:VK),Inv X pins σ H s->RelV x v->Vals xs us->r x xs H Q ->
   wpAny (model X.prog X.w) X.A (call (.builtin id) (v::us)) (EP X pins σ Q) X.xe s
theorem Vals.one {x:V} {us:List Value} (h:Vals [x] us):∃ u,us=[u]/\RelV x u:=by
 cases h with
 | cons r t=>cases t;exact ⟨_,rfl,r⟩
theorem Vals.two {x y:V} {us:List Value} (h:Vals [x,y] us):∃ u v,us=[u,v]/\RelV x u/\RelV y v:=by
 cases h with
 | cons r t =>
   obtain ⟨v,e,q⟩:=Vals.one t;subst e;exact ⟨_,v,rfl,r,q⟩
theorem Vals.zero:∀ {us:List Value},Vals [] us->us=[]
 | _,.nil=>rfl
theorem Vals.dropLast {xs:List V} {us:List Value} (h:Vals xs us):Vals xs.dropLast us.dropLast:=by
 induction h with
 | nil=>exact .nil
 | cons r t ih =>
   cases t with
   | nil=>exact .nil
   | cons q t'=>exact .cons r ih
theorem Vals.rep {xs:List V} {us:List Value} (h:Vals xs us):∀ k:Nat,Vals (List.replicate k xs).flatten (List.replicate k us).flatten
 | 0=>.nil
 | k+1=>by
   rw [List.replicate_succ,List.replicate_succ,List.flatten_cons,List.flatten_cons];exact Vals.append h (Vals.rep h k)
theorem JE {α:Type} (l:List α):l.eraseIdx (l.length - 1)=l.dropLast:=by
 induction l with
 | nil=>rfl
 | cons a r ih =>
   cases r with
   | nil=>rfl
   | cons b r =>
     have e:(a::b::r).length - 1=((b::r).length - 1)+1:=by
       have h1:(a::b::r).length=r.length+2:=rfl;have h2:(b::r).length=r.length+1:=rfl;omega
     rw [e,List.eraseIdx_cons_succ,ih]
     all_goals rfl
theorem Dt (its:List Value):∀ (k:Nat) (acc:List Value),
   List.foldl (fun x1 x2=>x1++x2) acc.toArray (List.replicate k its.toArray)=(acc++(List.replicate k its).flatten).toArray
 | 0,acc=>by simp
 | k+1,acc=>by
   have e:acc.toArray++its.toArray=(acc++its).toArray:=by simp
   have e2:(acc++its)++(List.replicate k its).flatten=acc++(List.replicate (k+1) its).flatten:=by
     rw [List.replicate_succ,List.flatten_cons,List.append_assoc]
   rw [<- e2,<- Dt its k (acc++its),<- e,List.replicate_succ,List.foldl_cons]
section
variable {X:Cx} {pins:List (Addr × Obj)} {σ:St} {H:Hp} {s:Shared} {l b:Addr} {xs ys zs:List V}
theorem Inv.lset {its its':List Value} {n:Nat} {f:Array Value->Array Value} {t':Nat} (I:Inv X pins σ H s) (hH:H l=some (.lst xs))
   (e:s.heap.get? l=some { cls:=.type "list",data:=.seq its.toArray n }) (hf:f its.toArray=its'.toArray) (hv:Vals ys its') (hz:ys.length<=sizeLine) :
   Inv X pins σ (upd H l (.lst ys)) { s with heap:=s.heap.update l (Obj.mapSeq f),toks:=t' }:=by
 have q:=PySem.IsL.update e f;rw [hf] at q;refine I.write (x:=l) (e:=l) (by rw [hH];exact trivial) (.inl rfl) (fun b' u hb hu=>(Heap.get?_update_other s.heap (Obj.mapSeq f) (Ne.symm hb)).trans hu) ⟨_,q⟩ ?_;exact ⟨hz,its',_,hv,q⟩
theorem Inv.lnew {its:List Value} {t':Nat} (I:Inv X pins σ H s) (hv:Vals ys its) (hz:ys.length<=sizeLine) :
   Inv X pins σ (upd H s.heap.objs.size (.lst ys)) { s with heap:=s.heap.push { cls:=.type "list",data:=.seq its.toArray },toks:=t' } :=
 I.laid (fun _ _ q=>Heap.get?_push_of_some _ q) (Nat.le_refl _) ⟨hz,its,0,hv,Heap.get?_push_size _ rfl⟩
theorem Inv.fresh (I:Inv X pins σ H s):H s.heap.objs.size=none:=I.hok.fresh (Nat.le_refl _)
theorem Inv.lstM (I:Inv X pins σ H s) (hH:H l=some (.lst xs)):xs.length<=sizeLine/\∃ (its:List Value) (n:Nat),Vals xs its/\xs.length=its.length/\s.heap.get? l=some { cls:=.type "list",data:=.seq its.toArray n }:=by
 obtain ⟨z,its,n,r,e⟩:=I.hok l _ hH;exact ⟨z,its,n,r,r.length,e⟩
theorem Pm {n:Nat} (h:n<=sizeLine):Builtin.List.listTooLong n=false:=by
 unfold Builtin.List.listTooLong;exact decide_eq_false (by omega)
end
section
variable {X:Cx}
def rAppend:V->List V->Hp->VK->Prop:=fun x vs H Q=>∃ l xs y,x=.ref l/\vs=[y]/\H l=some (.lst xs)/\xs.length<sizeLine/\Q .non (upd H l (.lst (xs++[y])))
theorem ft:MtM X "list.append" rAppend:=by
 intro pins s σ H x vs v us Q I rx rv h;obtain ⟨l,xs,y,rfl,rfl,hH,hz,q⟩:=h;cases rx;obtain ⟨u,rfl,ru⟩:=rv.one;obtain ⟨z,its,n,r,hl,e⟩:=I.lstM hH;refine call_meets F.slot_list_append ⟨_,e,rfl⟩ F.entry_list_append (F.args_list_append_2 _ _) (PySem.list_append l its.toArray n u (by rw [List.size_toArray];omega)) ⟨e,?_⟩;refine ⟨.non,_,I.lset (its':=its++[u]) hH e (by simp) (r.append (.cons ru .nil)) ?_,rfl,q⟩;rw [List.length_append,List.length_singleton];omega
def rPop:V->List V->Hp->VK->Prop:=fun x vs H Q=>∃ l xs y,x=.ref l/\vs=[]/\H l=some (.lst xs)/\xs[xs.length - 1]?=some y/\Q y (upd H l (.lst xs.dropLast))
theorem Fa:MtM X "list.pop" rPop:=by
 intro pins s σ H x vs v us Q I rx rv h;obtain ⟨l,xs,y,rfl,rfl,hH,hy,q⟩:=h;cases rx;have hus:=rv.zero;subst hus;obtain ⟨z,its,n,r,hl,e⟩:=I.lstM hH;obtain ⟨u,hu,ru⟩:=r.get hy;have hy':its.toArray[its.toArray.size - 1]?=some u:=by
   show its.toArray[its.length - 1]?=some u;rw [<- Array.getElem?_toList,<- hl];exact hu
 refine call_meets F.slot_list_pop ⟨_,e,rfl⟩ F.entry_list_pop (F.args_list_pop_1 _) (MeetsSeq.list_pop_last l its.toArray n u hy' (by rw [List.size_toArray];omega)) ⟨e,?_⟩;refine ⟨y,_,I.lset (its':=its.dropLast) hH e ?_ r.dropLast ?_,ru,q⟩
 . show its.toArray.eraseIdxIfInBounds (its.toArray.size - 1)=its.dropLast.toArray;rw [List.size_toArray,List.eraseIdxIfInBounds_toArray,JE]
 . rw [List.length_dropLast];omega
def rCat:R2:=fun x y H Q=>∃ l b xs zs,x=.ref l/\y=.ref b/\H l=some (.lst xs)/\H b=some (.lst zs)/\xs.length+zs.length<=sizeLine/\∀ p,H p=none->Q (.ref p) (upd H p (.lst (xs++zs)))
theorem TK:OpR X (binaryOp .Add) rCat:=by
 intro pins s σ H x y v u Q I rx ry h;obtain ⟨l,b,xs,zs,rfl,rfl,hH,hB,hz,q⟩:=h;cases rx;cases ry;obtain ⟨z,its,n,r,hl,e⟩:=I.lstM hH;obtain ⟨z2,its2,n2,r2,hl2,e2⟩:=I.lstM hB;refine PySem.P.add_list e e2 ?_ (by rw [List.size_toArray,List.size_toArray];omega);have ea:its.toArray++its2.toArray=(its++its2).toArray:=by simp
 rw [ea];exact ⟨.ref _,_,I.lnew (t':=s.toks) (r.append r2) (by rw [List.length_append];omega),rfl,q _ I.fresh⟩
def rRep:R2:=fun x y H Q=>∃ l k xs,x=.ref l/\y=.int k/\H l=some (.lst xs)/\-(2^63)<=k/\k<2^63/\xs.length*k.toNat<=sizeLine /\
 ∀ p,H p=none->Q (.ref p) (upd H p (.lst (List.replicate k.toNat xs).flatten))
theorem Sv {α:Type} (xs:List α) (k:Nat):(List.replicate k xs).flatten.length=k*xs.length:=by
 induction k with
 | zero=>simp
 | succ k ih=>rw [List.replicate_succ,List.flatten_cons,List.length_append,ih,Nat.succ_mul,Nat.add_comm]
theorem AV:OpR X (binaryOp .Mult) rRep:=by
 intro pins s σ H x y v u Q I rx ry h;obtain ⟨l,k,xs,rfl,rfl,hH,h1,h2,hz,q⟩:=h;cases rx;obtain ⟨t,rfl⟩:=ry;obtain ⟨z,its,n,r,hl,e⟩:=I.lstM hH;have hlen:its.toArray.size*k.toNat<=sizeLine:=by rw [List.size_toArray,<- hl];exact hz
 have hcap:¬ its.toArray.size*k.toNat > (2^63 - 1) / 8:=by
   have:(sizeLine:Nat)<=(2^63 - 1) / 8:=by decide
   omega
 have hfit:¬ (!Builtin.List.listFitsIndex k)=true:=by
   rw [fitsIndex_both h1 h2];exact Bool.false_ne_true
 have hlong:¬ Builtin.List.listTooLong (its.toArray.size*k.toNat)=true:=by
   rw [Pm hlen];exact Bool.false_ne_true
 have hnew:List.foldl (fun x1 x2=>x1++x2) #[] (List.replicate (if its.toArray.isEmpty=true then 0 else k.toNat) its.toArray)=(List.replicate k.toNat its).flatten.toArray:=by
   have f0:∀ m:Nat,List.foldl (fun x1 x2=>x1++x2) #[] (List.replicate m its.toArray)=(List.replicate m its).flatten.toArray:=fun m=>by
     have:=Dt its m [];rw [List.nil_append] at this;exact this
   rw [f0];cases its with
   | nil=>simp
   | cons a r'=>rw [if_neg (by simp)]
 refine wpAny_binaryOp_repeat_ref (T:="list") (U:="int") (by decide) ⟨_,e,rfl⟩ (fun s'=>typeIs_int s' k t) noFill_list_mul F.fills_int_mul F.slot_int_rmul repeat_list F.slot_int_index.lookup
   (call_meets F.slot_int_rmul (typeIs_int s k t) F.entry_int_rmul (F.args_int_rmul_2 _ _) (int___rmul___int_list k t l its.toArray n)
     ⟨e,rfl,⟨_,e,rfl⟩,call_meets F.slot_list_mul ⟨_,e,rfl⟩ F.entry_list_mul (F.args_list_mul_2 _ _) (AutoListH.list___mul___list_int_3 l its.toArray n k t hfit hcap hlong) ⟨e,?_⟩⟩)
 rw [hnew];exact ⟨.ref _,_,I.lnew (t':=s.toks) (r.rep k.toNat) (by rw [Sv,Nat.mul_comm];exact hz),rfl,q _ I.fresh⟩
end
section
variable {prog:Program} {w:World} {A:Around} {E:Value->Shared->Prop} {s:Shared}
set_option maxRecDepth 100000 in
end
section
variable {X:Cx}
end
end L2
namespace L2
open PySem PySem.Spec PyProof.Rows
section
variable {κ:Type} [DecidableEq κ]
def mJ (kvs:List (κ × V)) (k:κ):Option V:=(kvs.find? fun kv=>decide (kv.1=k)).map (·.2)
def ik (kvs:List (κ × V)) (k:κ) (v:V):List (κ × V) :=
 if (kvs.any fun kv=>decide (kv.1=k))=true then kvs.map (fun kv=>if kv.1=k then (kv.1,v) else kv) else kvs++[(k,v)]
theorem um {p:κ × V} {r:List (κ × V)} {k:κ} (e:p.1=k):mJ (p::r) k=some p.2:=by simp [mJ,List.find?_cons,e]
theorem vz {p:κ × V} {r:List (κ × V)} {k:κ} (e:¬ p.1=k):mJ (p::r) k=mJ r k:=by simp [mJ,List.find?_cons,e]
theorem AQ (k:κ):∀ kvs:List (κ × V),(kvs.any fun kv=>decide (kv.1=k))=(mJ kvs k).isSome
 | []=>rfl
 | p::r=>by
   rw [List.any_cons];by_cases e:p.1=k
   . simp only [um e,decide_eq_true e,Bool.true_or,Option.isSome_some]
   . rw [vz e,decide_eq_false e,Bool.false_or];exact AQ k r
theorem sy (kvs:List (κ × V)) (k:κ) (v:V):(ik kvs k v).length<=kvs.length+1:=by
 unfold ik;split
 . rw [List.length_map];omega
 . rw [List.length_append,List.length_cons,List.length_nil];omega
theorem Qp {kvs:List (κ × V)} {k:κ} (v:V) (h:mJ kvs k=none):ik kvs k v=kvs++[(k,v)]:=by
 unfold ik;rw [AQ,h];exact if_neg (by decide)
theorem RelO.isSome_eq {o:Option V} {u:Option Value} (r:RelO o u):o.isSome=u.isSome:=by
 cases o with
 | none=>cases u with
   | none=>rfl
   | some _=>exact (show False from r).elim
 | some _=>cases u with
   | none=>exact (show False from r).elim
   | some _=>rfl
theorem KV.val {kvs:List (κ × V)} {vs:List (κ × Value)} (r:KV kvs vs) (k:κ):RelO (mJ kvs k) (valueAt vs k):=by
 unfold KV at r
 induction r with
 | nil=>exact True.intro
 | @cons p q ps qs h t ih =>
   obtain ⟨h1,h2⟩:=h;by_cases e:p.1=k
   . have e':q.1=k:=h1.symm.trans e;have b:valueAt (q::qs) k=some q.2:=(by simp [valueAt,List.find?_cons,e']);rw [um e,b];exact h2
   . have e':¬ q.1=k:=fun z=>e (h1.trans z);have b:valueAt (q::qs) k=valueAt qs k:=(by simp [valueAt,List.find?_cons,e']);rw [vz e,b];exact ih
theorem KV.any {kvs:List (κ × V)} {vs:List (κ × Value)} (r:KV kvs vs) (k:κ):(kvs.any fun kv=>decide (kv.1=k))=vs.any fun kv=>decide (kv.1=k):=by
 unfold KV at r
 induction r with
 | nil=>rfl
 | cons h t ih=>rw [List.any_cons,List.any_cons,ih,h.1]
theorem KV.repl {kvs:List (κ × V)} {vs:List (κ × Value)} (r:KV kvs vs) (k:κ) {y:V} {u:Value} (ry:RelV y u) :
   KV (kvs.map fun kv=>if kv.1=k then (kv.1,y) else kv) (vs.map fun kv=>if kv.1=k then (kv.1,u) else kv):=by
 unfold KV at r ⊢
 induction r with
 | nil=>exact .nil
 | @cons p q ps qs h t ih =>
   rw [List.map_cons,List.map_cons];refine .cons ?_ ih;obtain ⟨h1,h2⟩:=h;by_cases e:p.1=k
   . rw [if_pos e,if_pos (h1.symm.trans e)];exact ⟨h1,ry⟩
   . rw [if_neg e,if_neg (fun z=>e (h1.trans z))];exact ⟨h1,h2⟩
theorem KV.put {kvs:List (κ × V)} {vs:List (κ × Value)} (r:KV kvs vs) (k:κ) {y:V} {u:Value} (ry:RelV y u):KV (ik kvs k y) (stored vs k u):=by
 unfold ik stored;rw [r.any k];by_cases e:(vs.any fun kv=>decide (kv.1=k))=true
 . rw [if_pos e,if_pos e];exact r.repl k ry
 . rw [if_neg e,if_neg e];exact Paired.snoc r ⟨rfl,ry⟩
theorem KV.length {kvs:List (κ × V)} {vs:List (κ × Value)} (r:KV kvs vs):kvs.length=vs.length:=Paired.length r
end
theorem Bz {P:Program} {w:World} {k:Key} {u:Value} (r:RelV (kV k) u):(dq P w).is k u=true:=by
 cases k with
 | inl i=>obtain ⟨t,e⟩:=(show ∃ t,u=Value.int i t from r);subst e;exact Ix P w i t
 | inr x=>obtain ⟨t,e⟩:=(show ∃ t,u=Value.str x t from r);subst e;exact Ir P w x t
theorem Dn {P:Program} {w:World}:∀ {ks:List Key} {us:List Value},Vals (ks.map kV) us->ItemsAre (dq P w) ks us
 | [],_,r=>by rw [List.map_nil] at r;cases r;exact .nil
 | k::ks,_,r=>by
   rw [List.map_cons] at r;cases r with
   | cons h t=>exact .cons (Bz h) (Dn t)
abbrev KT (H:Hp):List (List Key × V)->List (List Key × Addr × Value)->Prop:=Paired fun p q=>p.1=q.1/\H q.2.1=some (.tup (p.1.map kV))/\RelV p.2 q.2.2
theorem KT.val {H:Hp} {kvs:List (List Key × V)} {xs:List (List Key × Addr × Value)} (r:KT H kvs xs) (k:List Key):RelO (mJ kvs k) ((atKey xs k).map (·.2)):=by
 induction r with
 | nil=>exact True.intro
 | @cons p q ps qs h t ih =>
   obtain ⟨h1,_,h2⟩:=h;by_cases e:p.1=k
   . have e':q.1=k:=h1.symm.trans e;have b:atKey (q::qs) k=some q.2:=(by simp [atKey,List.find?_cons,e']);rw [um e,b];exact h2
   . have e':¬ q.1=k:=fun z=>e (h1.trans z);have b:atKey (q::qs) k=atKey qs k:=(by simp [atKey,List.find?_cons,e']);rw [vz e,b];exact ih
theorem KT.repl {H:Hp} {kvs:List (List Key × V)} {xs:List (List Key × Addr × Value)} (r:KT H kvs xs) (k:List Key) {y:V} {u:Value} (ry:RelV y u) :
   KT H (kvs.map fun kv=>if kv.1=k then (kv.1,y) else kv) (xs.map (putAt k u)):=by
 induction r with
 | nil=>exact .nil
 | @cons p q ps qs h t ih =>
   rw [List.map_cons,List.map_cons];refine .cons ?_ ih;obtain ⟨h1,h2,h3⟩:=h;unfold putAt;by_cases e:p.1=k
   . rw [if_pos e,if_pos (h1.symm.trans e)];exact ⟨h1,h2,ry⟩
   . rw [if_neg e,if_neg (fun z=>e (h1.trans z))];exact ⟨h1,h2,h3⟩
theorem KT.put {H:Hp} {kvs:List (List Key × V)} {xs:List (List Key × Addr × Value)} (r:KT H kvs xs) (k:List Key) {b:Addr} {y:V} {u:Value} (hb:H b=some (.tup (k.map kV))) (ry:RelV y u) :
   KT H (ik kvs k y) (storedH xs k b u):=by
 have e:(kvs.any fun kv=>decide (kv.1=k))=(atKey xs k).isSome:=by
   rw [AQ,(r.val k).isSome_eq,Option.isSome_map]
 unfold ik storedH;rw [e];by_cases q:(atKey xs k).isSome=true
 . rw [if_pos q,if_pos q];exact r.repl k ry
 . rw [if_neg q,if_neg q];exact Paired.snoc r ⟨rfl,hb,ry⟩
theorem KT.keeps {H H':Hp} {kvs:List (List Key × V)} {xs:List (List Key × Addr × Value)} (r:KT H kvs xs) (ht:∀ b ys,H b=some (.tup ys)->H' b=some (.tup ys)):KT H' kvs xs :=
 Paired.mapP r fun _ _ z=>⟨z.1,ht _ _ z.2.1,z.2.2⟩
section
variable {P:Program} {w:World} {H:Hp} {h:Heap} {a:Addr}
theorem RT {u:HO} (ok:HOk P w H h) (e:Rd H a u):ObjOk P w H h a u:=e.ok ok
theorem A9 {kvs:List (Key × V)} (ok:HOk P w H h) (e:Rd H a (.dK kvs)):kvs.length<=sizeLine/\(a == sysModules)=false/\∃ vs,KV kvs vs/\h.DictOf (dq P w) a vs :=
 show ObjOk P w H h a (.dK kvs) from RT ok e
theorem RM {kvs:List (Key × V)} (ok:HOk P w H h) (e:H a=some (.dK kvs)):kvs.length<=sizeLine/\(a == sysModules)=false/\∃ vs,KV kvs vs/\h.DictOf (dq P w) a vs:=A9 ok (.inl e)
theorem A2 {ks:List Key} (ok:HOk P w H h) (e:H a=some (.tup (ks.map kV))):(tupleKind (dq P w)).is h ks a:=by
 obtain ⟨_,its,r,o,h1,h2,n,h3⟩:=(show ObjOk P w H h a (.tup (ks.map kV)) from ok a _ e);exact ⟨o,its.toArray,n,h1,h2,h3,by simpa using Dn r⟩
theorem EC {kvs:List (List Key × V)} (ok:HOk P w H h) (e:Rd H a (.dT kvs)):kvs.length<=sizeLine/\(a == sysModules)=false /\
   ∃ xs,KT H kvs xs/\h.DictOfH (tupleKind (dq P w)) a xs:=by
 obtain ⟨z,y,xs,r,o,es,ep,h1,h2,h3,h4,h5⟩:=(show ObjOk P w H h a (.dT kvs) from RT ok e);refine ⟨z,y,xs,r,o,es,ep,h1,h2,h3,h4,fun x hx=>?_,h5⟩;have all:∀ {l:List (List Key × V)} {m:List (List Key × Addr × Value)},KT H l m->∀ x∈m,(tupleKind (dq P w)).is h x.1 x.2.1:=by
   intro l m q
   induction q with
   | nil=>intro x hx;exact nomatch hx
   | @cons p q ps qs hq t ih =>
     intro x hx;rcases List.mem_cons.mp hx with e|hx
     . subst e;exact A2 ok (by rw [<- hq.1];exact hq.2.1)
     . exact ih x hx
 exact all r x hx
theorem Uy {kvs:List (List Key × V)} (ok:HOk P w H h) (e:H a=some (.dT kvs)):kvs.length<=sizeLine/\(a == sysModules)=false /\
   ∃ xs,KT H kvs xs/\h.DictOfH (tupleKind (dq P w)) a xs:=EC ok (.inl e)
end
def DGet (H:Hp) (a:Addr) (y:V) (r:Option V):Prop :=
 (∃ kvs k,Rd H a (.dK kvs)/\y=kV k/\r=mJ kvs k)\/∃ kvs k b,Rd H a (.dT kvs)/\y=.ref b/\H b=some (.tup (k.map kV))/\r=mJ kvs k
def DPut (H:Hp) (a:Addr) (y v:V) (H':Hp):Prop :=
 (∃ kvs k,H a=some (.dK kvs)/\y=kV k/\kvs.length<sizeLine/\H'=upd H a (.dK (ik kvs k v))) \/
 ∃ kvs k b,H a=some (.dT kvs)/\y=.ref b/\H b=some (.tup (k.map kV))/\kvs.length<sizeLine/\H'=upd H a (.dT (ik kvs k v))
theorem DGet.k {H:Hp} {a:Addr} {kvs:List (Key × V)} {k:Key} (e:H a=some (.dK kvs)):DGet H a (kV k) (mJ kvs k):=.inl ⟨kvs,k,.inl e,rfl,rfl⟩
theorem DPut.k {H:Hp} {a:Addr} {kvs:List (Key × V)} {k:Key} {v:V} (e:H a=some (.dK kvs)) (hl:kvs.length<sizeLine):DPut H a (kV k) v (upd H a (.dK (ik kvs k v))):=.inl ⟨kvs,k,e,rfl,hl,rfl⟩
section
variable {X:Cx} {pins:List (Addr × Obj)} {σ:St} {H:Hp} {s:Shared} {a:Addr} {y v:V} {u r:Value} {o:Option V} {A:Around} {E:Value->Shared->Prop}
theorem Inv.big (I:Inv X pins σ H s):sysModules<s.heap.objs.size:=by
 have h:mainGlobals<s.heap.objs.size:=(I.mod.glob.keeps I.bk).lt;exact Nat.lt_trans (by decide) h
theorem No {Q:Value->Shared->Prop} (hu:A.units+1<cLine) (I:Inv X pins σ H s) (g:DGet H a y (some v)) (ry:RelV y u) (h:∀ w' s',Inv X pins σ H s'->RelV v w'->Q w' s') :
   wpAny (model X.prog X.w) A (getItem (.ref a) u) Q E s:=by
 rcases g with ⟨kvs,k,e,ey,l⟩|⟨kvs,k,b,e,ey,eb,l⟩
 . subst ey;obtain ⟨z,hd,vs,rel,dd⟩:=A9 I.hok e;obtain ⟨w',hw,rw'⟩:=RelO.some_of (v:=v) (o:=valueAt vs k) (by rw [l];exact rel.val k);exact wpAny_getItem_of (Bz ry) dd.mapOf hw (h w' _ (I.tok _) rw')
 . subst ey;cases (show u=Value.ref b from ry);obtain ⟨z,hd,xs,rel,dd⟩:=EC I.hok e;obtain ⟨w',hw,rw'⟩:=RelO.some_of (v:=v) (o:=(atKey xs k).map (·.2)) (by rw [l];exact rel.val k);obtain ⟨p,hp,hp2⟩:=Option.map_eq_some_iff.mp hw;refine wpAny_getItem_heap (tupleKind_room_in1 hu) (A2 I.hok eb) dd hp ?_;rw [hp2];exact h w' _ (I.tok _) rw'
theorem Si {Q:Value->Shared->Prop} (hu:A.units+1<cLine) (I:Inv X pins σ H s) (g:DGet H a y o) (ry:RelV y u) (h:∀ s',Inv X pins σ H s'->Q (.bool (!o.isSome)) s') :
   wpAny (model X.prog X.w) A (compareOp .NotIn u (.ref a)) Q E s:=by
 rcases g with ⟨kvs,k,e,ey,l⟩|⟨kvs,k,b,e,ey,eb,l⟩
 . subst ey;obtain ⟨z,hd,vs,rel,dd⟩:=A9 I.hok e;refine wpAny_notIn_of (Bz ry) hd dd.mapOf ?_;rw [<- (rel.val k).isSome_eq,<- l];exact h _ (I.tok _)
 . subst ey;cases (show u=Value.ref b from ry);obtain ⟨z,hd,xs,rel,dd⟩:=EC I.hok e;refine wpAny_notIn_heap (tupleKind_room_in1 hu) (A2 I.hok eb) hd dd ?_;have q:=(rel.val k).isSome_eq;rw [Option.isSome_map] at q;rw [<- q,<- l];exact h _ (I.tok _)
theorem CN {h':Heap} {t':Nat} {ob:HO} (I:Inv X pins σ H s) (mu:Mut (H a)) (hs:Heap.SameBut a s.heap h') (he:∃ q,h'.get? a=some q) (new:ObjOk X.prog X.w (upd H a ob) h' a ob) :
   Inv X pins σ (upd H a ob) { s with heap:=h',toks:=t' } :=
 I.write (x:=a) (e:=a) mu (.inl rfl) (fun b q hb z=>(hs.2 b hb).trans z) he new
theorem Ot {P:Program} {w:World} {H':Hp} {h':Heap} {kvs:List (Key × V)} {vs:List (Key × Value)} (z:kvs.length<=sizeLine) (hd:(a == sysModules)=false) (rel:KV kvs vs) (dd:h'.DictOf (dq P w) a vs) :
   ObjOk P w H' h' a (.dK kvs):=⟨z,hd,vs,rel,dd⟩
theorem ND {H':Hp} {Q:Unit->Shared->Prop} (hu:A.units+1<cLine) (I:Inv X pins σ H s) (g:DPut H a y v H') (ry:RelV y u) (rv:RelV v r) (h:∀ s',Inv X pins σ H' s'->Q () s') :
   wpAny (model X.prog X.w) A (setItem (.ref a) u r) Q E s:=by
 rcases g with ⟨kvs,k,e,ey,l,eH⟩|⟨kvs,k,b,e,ey,eb,l,eH⟩
 . subst ey eH;obtain ⟨z,hd,vs,rel,dd⟩:=RM I.hok e;have hz:vs.length<=sizeLine:=by rw [<- rel.length];exact z
   have hl:(ik kvs k v).length<=sizeLine:=by have:=sy kvs k v;omega
   refine wpAny_setItem_pairs (hsz:=hz) (Bz ry) dd fun h' dd' hs=>h _ ?_;have he:∃ q,h'.get? a=some q:=let ⟨q,_,_,hq,_⟩:=dd';⟨q,hq⟩;exact CN I (by rw [e];exact True.intro) hs he (Ot hl hd (rel.put k rv) dd')
 . subst ey eH;cases (show u=Value.ref b from ry);obtain ⟨z,hd,xs,rel,dd⟩:=Uy I.hok e;have hz:xs.length<=sizeLine:=by rw [<- Paired.length rel];exact z
   have hl:(ik kvs k v).length<=sizeLine:=by have:=sy kvs k v;omega
   refine wpAny_setItem_heap (hsz:=hz) (tupleKind_room_in1 hu) (A2 I.hok eb) dd fun h' dd' hs=>h _ ?_;obtain ⟨q,es,ep,hq,h2,h3,h4,_,h5⟩:=dd';refine CN I (by rw [e];exact True.intro) hs ⟨q,hq⟩ ⟨hl,hd,_,(rel.put k eb rv).keeps fun c ys ec=>?_,q,es,ep,hq,h2,h3,h4,h5⟩;rw [aq (cY ec e (fun z=>nomatch z))];exact ec
end
section
variable {X:Cx} {pins:List (Addr × Obj)} {σ:St} {H:Hp} {s:Shared} {a:Addr} {kvs:List (Key × V)} {k:Key} {u:Value} {A:Around} {E:Value->Shared->Prop}
theorem Uz {Q:Value->Shared->Prop} (I:Inv X pins σ H s) (e:Rd H a (.dK kvs)) (h:∀ t s',Inv X pins σ H s'->Q (.int kvs.length t) s'):wpAny (model X.prog X.w) A (call (.builtin "len") [.ref a]) Q E s:=by
 obtain ⟨z,hd,vs,rel,dd⟩:=A9 I.hok e;refine call_len_dict hd dd (by rw [<- rel.length];rw [sizeLine_eq] at z;omega) ?_;rw [<- rel.length];exact h _ _ (I.tok _)
end
def TQ (i:Expr):Prop:=∀ ov iv,subscripted i false ov iv=operate [ov,iv] (getItem ov iv)
theorem SH {prog:Program} {w:World} {A:Around} {E:Value->Shared->Prop} {s:Shared} {env:Env} {value slice:Expr} {pos:Pos} {T id:String} {Q:Value->Shared->Prop}
   (hl:typeLookup (.type T) "__getitem__"=pure (some (.builtin id))) (hs:TQ slice)
   (h:wpAny (model prog w) A (eval value env) (fun o s₁=>wpAny (model prog w) A (eval slice env) (fun i s₂=>s₂.TypeIs o T/\wpAny (model prog w) A (getItem o i) Q E s₂) E s₁) E s) :
   wpAny (model prog w) A (eval (.Subscript value slice pos) env) Q E s:=by
 refine Subscript_ (wpAny_mono h (fun o s₁ h₁=>wpAny_mono h₁ (fun i s₂ h₂=>?_) fun _ _ x=>x) fun _ _ x=>x);obtain ⟨hT,h₂⟩:=h₂;unfold subscriptTail;refine wpAny_bind ?_;rw [getitemInPython_of_ne hT.not_modules];refine wpAny_bind (wpAny_specialOf hT hl ?_);have fin:wpAny (model prog w) A (subscripted slice false o i) (fun r s₃=>wpAny (model prog w) A (letTemporaryGo value o r >>= fun _=>pure r) Q E s₃) E s₂:=by
   rw [hs o i];exact wpAny_operating (wpAny_mono h₂ (fun r s₃ h₃=>wpAny_bind (wpAny_letTemporaryGo (wpAny_pure h₃))) fun _ _ x=>x)
 first
   | exact wpAny_pure (wpAny_bind fin)
   | exact wpAny_bind (wpAny_pure (wpAny_bind fin))
   | exact wpAny_bind fin
theorem HB {X:Cx} {pins:List (Addr × Obj)} {σ:St} {H:Hp} {s:Shared} {a:Addr} {y:V} {o:Option V} (I:Inv X pins σ H s) (g:DGet H a y o):s.TypeIs (.ref a) "dict":=by
 rcases g with ⟨kvs,k,e,_,_⟩|⟨kvs,k,b,e,_,_,_⟩
 . obtain ⟨_,_,vs,_,dd⟩:=A9 I.hok e;exact dd.typeIs
 . obtain ⟨_,_,xs,_,dd⟩:=EC I.hok e;exact dd.typeIs
def LA (td ty:TE):TE:=fun σ H Q=>td σ H fun x H1=>ty σ H1 fun y H2=>∃ a v,x=.ref a/\DGet H2 a y (some v)/\Q v H2
def T7 (ty td:TE):TE:=fun σ H Q=>ty σ H fun y H1=>td σ H1 fun x H2=>∃ a o,x=.ref a/\DGet H2 a y o/\Q (.bl o.isSome) H2
def Cu (ty td:TE):TE:=fun σ H Q=>ty σ H fun y H1=>td σ H1 fun x H2=>∃ a o,x=.ref a/\DGet H2 a y o/\Q (.bl (!o.isSome)) H2
def Km (td ty tv:TE):TS:=fun D σ H=>tv σ H fun v H1=>td σ H1 fun x H2=>ty σ H2 fun y H3=>∃ a H4,x=.ref a/\DPut H3 a y v H4/\D.nx σ H4
section
variable {X:Cx} {o i e value:Expr} {pos pos' tpos:Pos} {td ty tv:TE}
theorem Se (hu:X.A.units+1<cLine) (ho:PE X o td) (hi:PE X i ty) (hs:TQ i):PE X (.Subscript o i pos) (LA td ty):=by
 intro pins s σ H Q I h;refine SH PySem.F.slot_dict_getitem.lookup hs (bn (ho pins s σ H _ I h) fun u s1 x H1 I1 rx q1=>bn (hi pins s1 σ H1 _ I1 q1) fun iv s2 y H2 I2 ry ⟨a,v,ex,g,q2⟩=>?_);subst ex;obtain rfl:u=Value.ref a:=rx;exact ⟨HB I2 g,No hu I2 g ry fun w' s3 I3 rw'=>⟨v,H2,I3,rw',q2⟩⟩
theorem NB (hu:X.A.units+1<cLine) (hi:PE X i ty) (ho:PE X o td):PC X .NotIn i o (Cu ty td):=by
 intro pins s σ H Q I h;refine bn (hi pins s σ H _ I h) fun iv s1 y H1 I1 ry q1=>bn (ho pins s1 σ H1 _ I1 q1) fun u s2 x H2 I2 rx ⟨a,ov,ex,g,q2⟩=>?_;subst ex;obtain rfl:u=Value.ref a:=rx;exact Si hu I2 g ry fun s3 I3=>⟨.bl (!ov.isSome),H2,I3,rfl,q2⟩
theorem S3 (hu:X.A.units+1<cLine) (ho:PE X o td) (hi:PE X i ty) (hv:PE X value tv) (hs:swapsWith value (some (.Subscript o i pos')) pos.line X.env=pure false) :
   PS X (.Assign [.Subscript o i pos'] value pos) (Km td ty tv):=by
 intro pins s σ H D I h;refine wpAny_Assign_Subscript (bn (hv pins s σ H _ I h) fun r s1 v H1 I1 rv q1=>bn (ho pins s1 σ H1 _ I1 q1) fun u s2 x H2 I2 rx q2=>bn (hi pins s2 σ H2 _ I2 q2) fun iv s3 y H3 I3 ry ⟨a,H4,ex,g,q3⟩=>?_) hs;subst ex;obtain rfl:u=Value.ref a:=rx;exact ND hu I3 g ry rv fun s4 I4=>⟨σ,H4,I4,q3⟩
end
theorem P4 {P:Program} {w:World} {H:Hp} (h:Heap) (hb:sysModules<h.objs.size):ObjOk P w H (h.push { cls:=.type "dict",data:=.dict #[] }) h.objs.size (.dK []) :=
 ⟨Nat.zero_le _,beq_eq_false_iff_ne.mpr (Ne.symm (Nat.ne_of_lt hb)),[],.nil,Heap.DictOf.new h⟩
def Ni:TE:=fun _ H Q=>∀ p,H p=none->Q (.ref p) (upd H p (.dK []))
def OV:TE:=fun _ H Q=>∀ p,H p=none->Q (.ref p) (upd H p (.dT []))
section
variable {X:Cx} {pos:Pos}
end
def tS:List (TE × TE)->St->Hp->(List (V × V)->Hp->Prop)->Prop
 | [],_,H,Q=>Q [] H
 | (tk,tv)::r,σ,H,Q=>tk σ H fun x H1=>tv σ H1 fun y H2=>tS r σ H2 fun ps H3=>Q ((x,y)::ps) H3
abbrev VV:List (V × V)->List (Value × Value)->Prop:=Paired fun p q=>RelV p.1 q.1/\RelV p.2 q.2
def PPs (X:Cx) (pos:Pos) (keys:List (Option Expr)) (values:List Expr) (trs:List (TE × TE)):Prop :=
 ∀ (pins:List (Addr × Obj)) (s:Shared) (σ:St) (H:Hp) (Q:List (V × V)->Hp->Prop),Inv X pins σ H s->tS trs σ H Q ->
   wpAny (model X.prog X.w) X.A (evalPairs (pairTrees keys values X.env pos)) (fun vs s'=>∃ ps H',Inv X pins σ H' s'/\VV ps vs/\Q ps H') X.xe s
theorem IZ {X:Cx} {pos:Pos}:PPs X pos [] [] []:=fun pins s σ H Q I h=>pairTrees_nil_walk ⟨[],H,I,.nil,h⟩
theorem zZ {X:Cx} {pos:Pos} {k v:Expr} {ks:List (Option Expr)} {vs:List Expr} {tk tv:TE} {trs:List (TE × TE)} (hk:PE X k tk) (hv:PE X v tv) (hr:PPs X pos ks vs trs) :
   PPs X pos (some k::ks) (v::vs) ((tk,tv)::trs):=fun pins s σ H Q I h =>
 pairTrees_cons_walk (bn (hk pins s σ H _ I h) fun u s1 x H1 I1 rx q1=>bn (hv pins s1 σ H1 _ I1 q1) fun w2 s2 y H2 I2 ry q2 =>
   thn (hr pins s2 σ H2 _ I2 q2) fun ws s3 ⟨ps,H3,I3,rel,q3⟩=>⟨(x,y)::ps,H3,I3,.cons ⟨rx,ry⟩ rel,q3⟩)
def nG (kvs more:List (Key × V)):List (Key × V):=more.foldl (fun acc kv=>ik acc kv.1 kv.2) kvs
theorem KV.merge:∀ {more:List (Key × V)} {rs:List (Key × Value)} {kvs:List (Key × V)} {vs:List (Key × Value)},KV more rs->KV kvs vs->KV (nG kvs more) (merged vs rs):=by
 intro more rs kvs vs r;unfold KV at r
 induction r generalizing kvs vs with
 | nil=>intro q;exact q
 | @cons p q ps qs h t ih =>
   intro r0;have e:KV (ik kvs p.1 p.2) (stored vs q.1 q.2):=by
     have:=r0.put p.1 h.2;rw [<- h.1];exact this
   exact ih e
theorem vU:∀ (more kvs:List (Key × V)),(nG kvs more).length<=kvs.length+more.length
 | [],kvs=>by show kvs.length<=kvs.length+0;omega
 | p::r,kvs=>by
   have h1:=vU r (ik kvs p.1 p.2);have h2:=sy kvs p.1 p.2;show (nG (ik kvs p.1 p.2) r).length<=_;rw [List.length_cons];omega
theorem BE {P:Program} {w:World}:∀ {kvs:List (Key × V)} {ws:List (Value × Value)},VV (kvs.map fun kv=>(kV kv.1,kv.2)) ws->∃ rs,Carries (dq P w) ws rs/\KV kvs rs
 | [],_,r=>by rw [List.map_nil] at r;cases r;exact ⟨[],True.intro,.nil⟩
 | p::kvs,_,r=>by
   rw [List.map_cons] at r;cases r with
   | @cons a b as bs h t =>
     obtain ⟨rs,c,q⟩:=BE (P:=P) (w:=w) t;obtain ⟨b1,b2⟩:=b;exact ⟨(p.1,b2)::rs,⟨Bz h.1,rfl,c⟩,.cons ⟨rfl,h.2⟩ q⟩
def Kf (trs:List (TE × TE)):TE:=fun σ H Q=>∀ p,H p=none->tS trs σ (upd H p (.dK [])) fun ps H2=>H2 p=some (.dK [])/\∃ kvs:List (Key × V),ps=kvs.map (fun kv=>(kV kv.1,kv.2))/\kvs.length<=15/\Q (.ref p) (upd H2 p (.dK (nG [] kvs)))
theorem Jc {X:Cx} {pos:Pos} {keys:List (Option Expr)} {values:List Expr} {trs:List (TE × TE)} (h:PPs X pos keys values trs) (hall:keys.all (·.isSome)=true) (hl:keys.length=values.length) (h0:keys≠[])
   (h15:keys.length<=15):PE X (.Dict keys values pos) (Kf trs):=by
 intro pins s σ H Q I q;have hn:=I.hok.fresh (Nat.le_refl s.heap.objs.size);have I1:=I.laid (a:=s.heap.objs.size) (o:=.dK []) (h':=s.heap.push { cls:=.type "dict",data:=.dict #[] }) (t':=s.toks) (fun _ _ q=>Heap.get?_push_of_some _ q) (Nat.le_refl _) (P4 s.heap I.big);refine wpAny_Dict_walk (knd:=dq X.prog X.w) hall hl h0 h15 (thn (h pins _ σ _ _ I1 (q _ hn)) fun ws s2 ⟨ps,H2,I2,rel,e,kvs,ep,lk,q2⟩=>?_);subst ep;obtain ⟨rs,c,rk⟩:=BE (P:=X.prog) (w:=X.w) rel;obtain ⟨z,hd,vs0,r0,dd⟩:=RM I2.hok e;cases r0;refine ⟨rs,c,dd,fun h' dd' hs=>⟨.ref s.heap.objs.size,_,?_,rfl,q2⟩⟩;have hz:(nG [] kvs).length<=sizeLine:=by
   have h1:=vU kvs [];rw [List.length_nil] at h1;rw [sizeLine_eq];omega
 have he:∃ q,h'.get? s.heap.objs.size=some q:=let ⟨q,_,_,hq,_⟩:=dd';⟨q,hq⟩;exact CN I2 (by rw [e];exact True.intro) hs he (Ot hz hd (rk.merge .nil) dd')
section
variable {X:Cx} {pins:List (Addr × Obj)} {σ:St} {H:Hp} {s:Shared} {a:Addr} {y d:V} {u r:Value} {o:Option V} {A:Around} {E:Value->Shared->Prop}
end
section
variable {X:Cx} {o e f:Expr} {apos cpos:Pos} {td ty tx:TE}
end
section
variable {X:Cx} {pins:List (Addr × Obj)} {σ:St} {H:Hp} {s:Shared} {a:Addr} {kvs:List (Key × V)} {A:Around} {E:Value->Shared->Prop}
end
section
variable {X:Cx} {pins:List (Addr × Obj)} {σ:St} {H:Hp} {s:Shared} {a:Addr} {y:V} {u:Value} {A:Around} {E:Value->Shared->Prop}
end
end L2
namespace Att
open PySem PySem.W PySem.Calls PyProof.Rows
theorem A8 {P:Params} {h:Heap}:∀ (ns:List Int) (vs:List Value),WellAll P h vs (ns.map WData.int)->IntsAre vs ns:=by
 intro ns
 induction ns with
 | nil =>
   intro vs w;rw [List.map_nil] at w;cases w;exact .nil
 | cons n ns ih =>
   intro vs w;rw [List.map_cons] at w;cases w with
   | cons a b =>
     cases a;exact .cons _ _ (ih _ b)
theorem OT {l:OpenLaw} {n:Nat} (hn:l.most=some n) {P:Params} {h:Heap} {args:List WData} {vals:List Value}
   (hpre:l.row.toRowW.claim.pre args=true) (hwl:WellAll P h vals args) :
   ∃ a vs ns,vals=[Value.ref a]/\args=[WData.list (ns.map WData.int)]/\h.get? a=some { cls:=.type "list",data:=.seq vs.toArray }/\IntsAre vs ns/\ns.length<=n:=by
 have hsh:WShape.hasAll [] args [.list .int]=true:=(pre_splitW hpre).1;have hc:l.pre.holds [] { args:=args }=true:=(pre_splitW hpre).2;obtain ⟨d,r,rfl,h1,h2⟩:=hasAllW_cons hsh;obtain rfl:=hasAllW_nil h2;obtain ⟨xs,rfl,h3⟩:=hasW_list h1;obtain ⟨ns,rfl⟩:=items_int h3;have hlen:ns.length<=n:=by
   unfold OpenLaw.pre at hc;have h4:(WTm.not (.lt (.lit (.int (n:Int))) (.len (.arg 0)))).holds [] { args:=[.list (ns.map .int)] }=true:=by
     have h4:=(holds_andW hc).1;rw [hn] at h4;exact h4
   have h5:=condW_of h4 (w_not (w_lt w_lit (w_len_list (w_arg rfl))));rw [List.length_map] at h5;refine Nat.le_of_not_lt fun q=>?_;have q':(n:Int)<((ns.length:Nat):Int):=by omega
   first
     | (rw [decide_eq_true q'] at h5;exact absurd h5 (by decide))
     | (simp at h5;omega)
 cases hwl with
 | cons w1 w2 =>
   cases w2;cases w1 with
   | list ho hall=>exact ⟨_,_,ns,rfl,rfl,ho,A8 ns _ hall,hlen⟩
theorem NU (l:OpenLaw) (args:List WData):l.row.toRowW.claim.post args (.bool true) args=true :=
 postW_of (r:=l.row.toRowW) (X:=(true == true))
   (show WShape.has [] (.bool true) .bool=true by first|rfl|decide|simp [WShape.has,WShape.arms,WShape.armsAll])
   (show (WTm.eq .res (.lit (.bool true))).value [] { args:=args,res:=some (.bool true),after:=args }=some (.bool (true == true)) from w_eq_bool (w_res rfl) w_lit) rfl
theorem attach_call {l:OpenLaw} {n:Nat} {q:Program} {loose:List Str} {XP:(Str->Option Value)->Heap->Prop} {YP:World->Heap->Prop} {d:DefRec}
   (hn:l.most=some n) (hdf:d.params.defaults=[])
   (call:∀ (w:World) (s₀ s₁:Shared) (mg mb:Str->Option Value) (fa:Addr) (o:Obj) (pm cd doc:Value) (a:Addr) (vs:List Value) (ns:List Int),
     Ground q loose [] XP w s₀ mg mb s₁.heap->YP w s₁.heap ->
     s₁.heap.get? fa=some o->o.data=.func (docDef d.name d.params d.body d.scope pm cd doc)->s₁.heap.CodeRec cd d.name->mg d.name=some (.ref fa) ->
     s₁.heap.get? a=some { cls:=.type "list",data:=.seq vs.toArray }->IntsAre vs ns->ns.length<=n->s₁.gens=#[] ->
     codeAny (model l.prog w) callerA (.call (.ref fa) ⟨[.ref a],[]⟩) (fun r s'=>r=.ok (.ret (.bool true))/\OldK s₁.heap s'.heap/\s'.os=s₁.os/\AllBare s'.gens) s₁) :
   WalkO q loose XP YP l.row.toRowW d [] (fun f vs=>PySem.call f vs):=by
 intro w s₀ s₁ mg mb G Y fa o pm cd doc dV kV ho hd hcd hD hmg hg args vals as hpre hlay hrd hwl hlo;obtain rfl:dV=.none:=Dflts.none hD hdf;obtain rfl:kV=.none:=Dflts.noKw hD;obtain ⟨a,vs,ns,rfl,rfl,hobj,hints,hlen⟩:=OT hn hpre hwl;refine enter_call (codeAny_mono (call w s₀ s₁ mg mb fa o pm cd doc a vs ns G Y ho (fd_plain hd) hcd hmg hobj hints hlen hg) fun r s' hq=>?_);obtain ⟨rfl,h2,h3,h4⟩:=hq;exact ⟨.inl ⟨.bool true,.bool true,[],rfl,fun _=>rfl,.bool true,NU l _,fun _=>⟨List.Pairwise.nil,fun _ hm=>(nomatch hm)⟩⟩,h2,h3,h4⟩
section
variable {prog:Program} {w:World} {A:Around} {E:Value->Shared->Prop} {s:Shared} {K:Frag}
end
end Att
namespace L2
open PySem PySem.Spec PyProof.Rows
theorem DK:∀ {vs:List Value} {ns:List Int},IntsAre vs ns->Vals (ns.map V.int) vs
 | _,_,.nil=>.nil
 | _,_,.cons n t h=>.cons ⟨t,rfl⟩ (DK h)
def Qg (H:Hp):Prop:=∀ b,H b=none\/∃ o xs,H b=some (.frz o (.lst xs))
theorem O5 {P:Program} {w:World} {K:PySem.W.Frag} {mg mb:Str->Option Value} {CX:CXT} {k:Nat} {fa a:Addr} {fd:FuncData} {x:Str} {sp:Sp} {s₁:Shared} {vs:List Value} {ns:List Int}
   (KX:K.In s₁.heap) (hns:s₁.heap.Ns mainGlobals mg) (hb:s₁.heap.Ns builtinsNs mb) (hbb:∀ x:Str,x≠"__name__"->mb x=bootBuiltins x) (hlim:s₁.heap.NoLimit) (hg:s₁.gens=#[])
   (ha:s₁.heap.get? a=some { cls:=.type "list",data:=.seq vs.toArray }) (hi:IntsAre vs ns) (hl:ns.length<=sizeLine) (hr:Room k callerA)
   (F:∀ base:Heap,K.In base->base.Ns mainGlobals mg->FnOk P w K mg base CX k fa fd [x] sp) (hbind:∀ (s:Shared) (u:Value),BindsTo s fd ⟨[u],[]⟩ [(x,u)])
   (hsp:∀ H:Hp,Qg H->SqL K H a (ns.map V.int)->sp [.ref a] H (fun v _=>v=.bl true) fun _ _ _=>False)
   (hCX:∀ H e s',CX [] H s₁ (fun _ _ _=>False) e s'->False) :
   codeAny (model P w) callerA (.call (.ref fa) ⟨[.ref a],[]⟩) (fun r s'=>r=.ok (.ret (.bool true))/\OldK s₁.heap s'.heap/\s'.os=s₁.os/\AllBare s'.gens) s₁:=by
 have rv:=DK hi;have lenV:=hi.length;have core:∀ H:Hp,Qg H->SqL K H a (ns.map V.int)->HOk P w H s₁.heap->(∀ b,H b≠none->b=a)->(H a≠none->K.lookup a=none) ->
     codeAny (model P w) callerA (.call (.ref fa) ⟨[.ref a],[]⟩) (fun r s'=>r=.ok (.ret (.bool true))/\OldK s₁.heap s'.heap/\s'.os=s₁.os/\AllBare s'.gens) s₁:=by
   intro H hO hS hok hA hK;have base_of:∀ {b:Addr} {o:Obj},s₁.heap.get? b=some o->H b=none->(vJ s₁.heap H).get? b=some o:=fun e n=>Rx e n;have noA:∀ {b:Addr} {o:Obj} {es:Array DictEntry} {ep:Nat},s₁.heap.get? b=some o->o.data=.dict es ep->H b=none:=fun {b o es ep} e d=>by
     cases q:H b with
     | none=>rfl
     | some u =>
       have e':b=a:=hA b (by rw [q];simp);subst e';rw [ha] at e;cases e;have d':Data.seq vs.toArray _=Data.dict es ep:=d;cases d'
   have nsK:∀ {b:Addr} {m:Str->Option Value},s₁.heap.Ns b m->(vJ s₁.heap H).Ns b m:=fun {b m} ⟨o,es,ep,e,d,r⟩=>⟨o,es,ep,base_of e (noA e d),d,r⟩;have hKb:K.In (vJ s₁.heap H):=fun b o e=>base_of (KX b o e) (by
     cases q:H b with
     | none=>rfl
     | some u =>
       have e':b=a:=hA b (by rw [q];simp);subst e';rw [hK (by rw [q];simp)] at e;cases e)
   have hM:Mod K mg (vJ s₁.heap H):=⟨hKb,nsK hns,⟨mb,nsK hb,hbb⟩,let ⟨mc,h1,h2⟩:=hlim;⟨mc,nsK h1,h2⟩⟩;have e0:Env0 P w K mg (vJ s₁.heap H) callerA [] s₁ H:=⟨rfl,hM,fun b o e=>SN e,Nat.le_of_eq (Ny _ _),trivial,fun b hb=>absurd (show b∈([]:List Addr) from hb) (by simp),hok,.of_eq hg⟩;refine codeAny_mono ((F _ hKb (nsK hns)).run callerA [] s₁ H ⟨[.ref a],[]⟩ [.ref a] [.ref a] _ _ hr e0 (hbind s₁ (.ref a)) (.cons rfl .nil) (hsp H hO hS)) fun r s' h=>?_;cases r with
   | error e=>exact (hCX H e s' h).elim
   | ok fl =>
     cases fl with
     | next=>exact False.elim h
     | brk=>exact False.elim h
     | cont=>exact False.elim h
     | ret u =>
       obtain ⟨v,H',os,bare,un,hok',r',q⟩:=h;have q':v=.bl true:=q;subst q';obtain rfl:u=Value.bool true:=r';refine ⟨rfl,OldK.of_keep fun b o e=>?_,os,bare⟩;cases q:H b with
       | none=>exact un.keep b o e q (by intro z;exact absurd (show b∈([]:List Addr) from z) (by simp)) (by simp)
       | some u =>
         rcases hO b with z|⟨ob,xs,z⟩
         . rw [q] at z;cases z
         . have z2:=un.frzs b ob _ z;obtain ⟨e1,_⟩:=hok b _ z;obtain ⟨e2,_⟩:=hok' b _ z2;rw [e] at e1;cases e1;exact e2
 cases hk:K.lookup a with
 | some o =>
   have e:=KX a o hk;rw [ha] at e;cases e;refine core (fun _=>none) (fun _=>.inl rfl) (.inr ⟨_,vs.toArray,_,hk,rfl,rfl,rfl,by rw [List.size_toArray,lenV];exact hl,by simpa using rv⟩) (fun b u z=>by have z':(none:Option HO)=some u:=z;cases z') (fun b z=>absurd rfl z) fun z=>absurd rfl z
 | none =>
   refine core (fun b=>if b=a then some (.frz { cls:=.type "list",data:=.seq vs.toArray } (.lst (ns.map V.int))) else none) (fun b=>?_) (.inl (.inr ⟨{ cls:=.type "list",data:=.seq vs.toArray },if_pos rfl⟩)) (fun b u z=>?_) (fun b z=>?_) fun _=>hk
   . by_cases hb:b=a
     . exact .inr ⟨_,_,if_pos hb⟩
     . exact .inl (if_neg hb)
   . by_cases hb:b=a
     . have z':=(if_pos hb).symm.trans z;cases z';subst hb;exact ⟨ha,by rw [List.length_map];exact hl,vs,_,rv,ha⟩
     . have z':=(if_neg hb).symm.trans z;cases z'
   . by_cases hb:b=a
     . exact hb
     . exact absurd (if_neg hb) z
end L2
namespace L2
open PySem PySem.Spec PyProof.Rows
theorem walk_of {l:PySem.W.OpenLaw} {n k:Nat} {q:Program} {loose:List Str} {XP:(Str->Option Value)->Heap->Prop} {YP:World->Heap->Prop} {d:DefRec} {K:Params->PySem.W.Frag} {CX:World->CXT} {sp:World->Sp} {x:Str}
   (hn:l.most=some n) (hn2:n<=sizeLine) (hdf:d.params.defaults=[]) (hr:Room k callerA)
   (hY:∀ (w:World) (h:Heap),YP w h->(K w.params).In h)
   (F:∀ (w:World) (mg:Str->Option Value) (fa:Addr) (h:Heap),(K w.params).In h->h.Ns mainGlobals mg->mg d.name=some (.ref fa) ->
     ∃ fd:FuncData,(∀ (s:Shared) (u:Value),BindsTo s fd ⟨[u],[]⟩ [(x,u)]) /\
       ∀ base:Heap,(K w.params).In base->base.Ns mainGlobals mg->FnOk l.prog w (K w.params) mg base (CX w) k fa fd [x] (sp w))
   (hsp:∀ (w:World) (H:Hp) (a:Addr) (ns:List Int),ns.length<=n->Qg H->SqL (K w.params) H a (ns.map V.int)->sp w [.ref a] H (fun v _=>v=.bl true) fun _ _ _=>False)
   (hCX:∀ (w:World) (H:Hp) (s:Shared) (e:Value) (s':Shared),CX w [] H s (fun _ _ _=>False) e s'->False) :
   PySem.W.WalkO q loose XP YP l.row.toRowW d [] (fun f vs=>PySem.call f vs):=by
 refine Att.attach_call hn hdf fun w s₀ s₁ mg mb fa o pm cd doc a vs ns G Y ho hd hcd hmg hobj hints hlen hg=>?_;have KX:=hY w _ Y;obtain ⟨fd,hb,hF⟩:=F w mg fa _ KX G.T.g hmg;exact O5 KX G.T.g G.T.b G.T.builtins G.T.nolimit hg hobj hints (Nat.le_trans hlen hn2) hr hF hb (fun H hO hS=>hsp w H a ns hlen hO hS) fun H e s'=>hCX w H s₁ e s'
end L2
namespace L2
open PySem PySem.Spec PyProof.Rows
def gm (s:Stmt) (j:Nat):Stmt:=match s with
 | .ClassDef _ _ _ body _ _ _ _ _ _ _=>body.getD j (.Pass ⟨0,0,0,0⟩)
 | _=>.Pass ⟨0,0,0,0⟩
def az (s:Stmt):Arguments:=match s with
 | .FunctionDef _ a _ _ _ _ _ _ _ _=>a
 | _=>{ posonlyargs:=[],args:=[],vararg:=none,kwonlyargs:=[],kw_defaults:=[],kwarg:=none,defaults:=[] }
def aw (s:Stmt):List Stmt:=match s with
 | .FunctionDef _ _ b _ _ _ _ _ _ _=>b
 | _=>[]
def aa (s:Stmt):Scope:=match s with
 | .FunctionDef _ _ _ _ _ _ sc _ _ _=>sc
 | _=>{ kind:=.function,names:=[],isGenerator:=false,isCoroutine:=false }
abbrev CX0:CXT:=fun _ _ _ _ _ _=>False
abbrev E0:XK:=fun _ _ _=>False
structure Fun (K:PySem.W.Frag) (x qual:Str) (st:Stmt) (f:Addr) (fd:FuncData):Prop where
 ex:∃ (oc:Value) (od:Option Addr) (kV doc pm:Value) (an:Option Addr) (cdv ct:Value) (osl:Array (Option Value)),
   fd=PySem.W.fnOf x qual (az st) (aw st) (aa st) .none kV doc pm an cdv ct/\K.lookup f=some ⟨oc,od,.func fd,osl⟩/\PySem.W.codeIn K cdv qual=true
 kp:PySem.W.keepIn K (.ref f)=true
section
variable {P:Program} {w:World} {K:PySem.W.Frag} {mg:Str->Option Value} {base:Heap}
theorem Fun.binds {x qual:Str} {st:Stmt} {f:Addr} {fd:FuncData} {ps:List Str} (F:Fun K x qual st f fd)
   (h:∀ (kV doc pm:Value) (an:Option Addr) (cdv ct:Value) (us:List Value),us.length=ps.length->bindArgs (PySem.W.fnOf x qual (az st) (aw st) (aa st) .none kV doc pm an cdv ct) ⟨us,[]⟩=pure (ps.zip us)):Binds K fd ps []:=by
 obtain ⟨oc,od,kV,doc,pm,an,cdv,ct,osl,rfl,lk,hcd⟩:=F.ex;exact .all (h kV doc pm an cdv ct)
theorem aM {x qual:Str} {st:Stmt} {f:Addr} {oc:Value} {od an:Option Addr} {osl:Array (Option Value)} {kV doc pm cdv ct:Value} (l:K.lookup f=some ⟨oc,od,.func (PySem.W.fnOf x qual (az st) (aw st) (aa st) .none kV doc pm an cdv ct),osl⟩)
   (c:PySem.W.codeIn K cdv qual=true) (k:PySem.W.keepIn K (.ref f)=true):Fun K x qual st f (PySem.W.fnOf x qual (az st) (aw st) (aa st) .none kV doc pm an cdv ct):=⟨⟨oc,od,kV,doc,pm,an,cdv,ct,osl,rfl,l,c⟩,k⟩
end
theorem RV {A:Around} {k:Nat} (hr:Room k A):A.units+1<cLine:=Nat.lt_of_le_of_lt (Nat.add_le_add_left (by decide:1<=64) _) hr.units
section
variable {X:Cx}
theorem pv (i:Nat) {x:Str} {pos:Pos} (hN:X.N[i]?=some x:=by rfl) (hv:Vis X.env.scope x:=by first|exact Or.inl rfl|exact Or.inr (Or.inl rfl)|exact Or.inr (Or.inr rfl)) (hd:(x == ("__debug__":Str))=false:=by decide)
   (hcd:(x == ("__classdict__":Str))=false:=by decide):PE X (.Name x pos) (G2 i):=Oe hN hv hd hcd
end
theorem UQ {A B:Prop} (h:B):if false=true then A else B:=by
 rw [if_neg Bool.false_ne_true];exact h
theorem UG {A B:Prop} (h:A):if true=true then A else B:=by
 rw [if_pos rfl];exact h
def Same (H H':Hp):Prop:=∀ b o,H b=some o->H' b=some o
theorem Same.refl (H:Hp):Same H H:=fun _ _ h=>h
theorem Same.trans {H H1 H2:Hp} (a:Same H H1) (b:Same H1 H2):Same H H2:=fun c o h=>b c o (a c o h)
theorem Same.free {H H':Hp} (e:Same H H') {l:Addr} (h:H' l=Option.none):H l=Option.none:=by
 cases q:H l with
 | none=>rfl
 | some o =>
   rw [e l o q] at h;cases h
theorem Same.seq {K:PySem.W.Frag} {H H':Hp} {a:Addr} {xs:List V} (e:Same H H') (h:SqL K H a xs):SqL K H' a xs:=by
 rcases h with (h|⟨o,h⟩)|h
 . exact .inl (.inl (e _ _ h))
 . exact .inl (.inr ⟨o,e _ _ h⟩)
 . exact .inr h
end L2
namespace L2
open PySem PySem.Spec PyProof.Rows
section
variable {X:Cx}
theorem N8:jF X (.builtin "len") (fun xs H Q=>∃ a kvs,xs=[V.ref a]/\H a=some (.dK kvs)/\Q (.int kvs.length) H):=by
 intro pins s σ H xs us Q I r h;obtain ⟨a,kvs,rfl,ha,q⟩:=h;obtain ⟨u,rfl,ru⟩:=qP r;cases ru;exact Uz I (.inl ha) fun t s' I'=>⟨.int kvs.length,H,I',⟨t,rfl⟩,q⟩
end
section
variable {κ:Type} [DecidableEq κ]
end
end L2
set_option Elab.async false
set_option linter.all false
set_option maxRecDepth 100000
namespace L2
open PySem PySem.Spec PyProof.Rows
def Cx.comp (X:Cx) (Nc:List Str) (scope:Scope) (cl:List (Str × Addr)) (C:Addr) (s₂:Shared) (H₁:Hp) (fp:List Addr):Cx where
 prog:=X.prog
 w:=X.w
 K:=X.K
 mg:=X.mg
 base:=X.base
 A:=X.A
 N:=Nc
 s₀:=s₂
 H₀:=H₁
 env:=compEnvC scope cl C X.env
 outer:=X.stack
 stack:=X.stack
 ex:=fp
 fn:=fun _=>false
 calm:=X.calm
 pn:=[]
 xe:=fun _ _=>False
structure CompTxt (X:Cx) (Nc:List Str) (own:Nat) (js:List Nat) (scope:Scope) (cl:List (Str × Addr)):Prop where
 clos:closureFor scope X.env=pure cl
 kind:scope.kind=.function
 nocell:∀ y∈scope.names,y.2≠.cell
 names:∀ y∈scope.names,y.2=.local->scope.names.lookup y.1=some .local
 cells:∀ x c,cl.lookup x=some c->X.env.cells.lookup x=some c
 has:∀ x,((relabel scope X.env).names.lookup x=some .cell\/(relabel scope X.env).names.lookup x=some .free)->∃ c,cl.lookup x=some c
 len:Nc.length=own+js.length
 outer:∀ i x,Nc[own+i]?=some x->∃ j,js[i]?=some j/\X.N[j]?=some x/\X.env.scope.names.lookup x=some .cell/\(relabel scope X.env).names.lookup x=some .cell
def gN (own:Nat) (js:List Nat) (σ:St):St:=List.replicate own none++js.map fun j=>(σ[j]?).getD none
def R1 (own:Nat) (js:List Nat) (wi:TI) (g:TG) (tc:TT) (te:TE):TE:=fun σ H Q=>wi σ H fun J H1=>∀ p,H1 p=none ->
 ∃ W:Nat->Nat->List V->St->Hp->Prop,(∃ m,W 0 m [] (gN own js σ) (upd H1 p (.lst [])))/\∀ i m ys σc Hc,W i m ys σc Hc ->
   (J.stop i Hc/\Q (.ref p) Hc)\/(J.go i Hc/\∀ x H',J.yld i Hc x H'->g x σc H' fun σ2 H2=>tc σ2 H2 fun b H3 =>
     if b=true then te σ2 H3 fun y H4=>H4 p=some (.lst ys)/\ys.length<sizeLine/\∃ m',m'<m/\W (i+1) m' (ys++[y]) σ2 (upd H4 p (.lst (ys++[y])))
     else ∃ m',m'<m/\W (i+1) m' ys σ2 H3)
def PTs (X:Cx) (ifs:List Expr) (t:TT):Prop :=
 ∀ (pins:List (Addr × Obj)) (s:Shared) (σ:St) (H:Hp) (Q:Bool->Hp->Prop),Inv X pins σ H s->t σ H Q ->
   wpAny (model X.prog X.w) X.A (forIn ifs true fun c r=>if r=true then do let ok <- isTrue c X.env (eval c X.env);pure (ForInStep.yield ok) else pure (ForInStep.yield r)) (TP X pins σ Q) X.xe s
def tYes:TT:=fun _ H Q=>Q true H
theorem CD {X:Cx}:PTs X [] tYes:=fun pins s σ H Q I h=>wpAny_tests_nil ⟨H,I,h⟩
section
variable {prog:Program} {w:World} {A:Around} {E:Value->Shared->Prop} {R:Result->Shared->Prop} {s:Shared}
theorem HN {elt target iter:Expr} {ifs:List Expr} {scope:Scope} {pos:Pos} {it acc:Value} {env:Env} (I:Nat->Shared->Prop)
   (turn:∀ n s,I n s->wpAny (model prog w) A (pyNext it) (fun r s₁=>match r with
     | none=>R (.ok .next) s₁
     | some v=>wpAny (model prog w) A (letOwnedTupleGo target it v) (fun _ s₁'=>wpAny (model prog w) A (assign target env v) (fun _ s₂ =>
         wpAny (model prog w) A (forIn ifs true fun c r=>if r=true then do let ok <- isTrue c env (eval c env);pure (ForInStep.yield ok) else pure (ForInStep.yield r)) (fun ok s₃ =>
           if ok=true then wpAny (model prog w) A (eval elt env) (fun x s₄ =>
             wpAny (model prog w) A (call (.builtin "list.append") [acc,x]) (fun _ s₅=>∃ m,m<n/\I m s₅) (fun _ _=>False) s₄) (fun _ _=>False) s₃
           else ∃ m,m<n/\I m s₃) (fun _ _=>False) s₂) (fun _ _=>False) s₁') (fun _ _=>False) s₁) (fun _ _=>False) s)
   (n:Nat) (h:I n s) :
   codeAny (model prog w) A (.compLoop (.ListComp elt [⟨target,iter,ifs,0⟩] scope pos) 0 it acc env) R s:=by
 refine codeAny_loop rfl I (fun n s hI=>?_) n h;show wpAny _ A ((compTurn (.ListComp elt [⟨target,iter,ifs,0⟩] scope pos) 0 it acc env).onRaise (fun x=>do noteFrame x env;theTreesLotGoes x)) _ _ s;refine wpAny_noted ?_;rw [compTurn_list];refine wpAny_bind (wpAny_standAt (wpAny_bind (wpAny_mono (turn n s hI) (fun r s₁ h₁=>?_) fun _ _ h'=>h'.elim)));cases r with
 | none=>exact wpAny_pure h₁
 | some v =>
   refine wpAny_bind (wpAny_mono h₁ (fun _ s₁' h₁'=>?_) fun _ _ h'=>h'.elim);refine wpAny_bind (wpAny_mono h₁' (fun _ s₂ h₂=>wpAny_bind (wpAny_mono h₂ (fun ok s₃ h₃=>?_) fun _ _ h'=>h'.elim)) fun _ _ h'=>h'.elim);cases ok with
   | true =>
     rw [if_pos rfl] at h₃;simp only [if_true];exact wpAny_bind (wpAny_bind (wpAny_mono h₃ (fun x s₄ h₄=>wpAny_bind (wpAny_mono h₄ (fun _ s₅ h₅=>wpAny_pure (wpAny_pure ⟨rfl,h₅⟩)) fun _ _ h'=>h'.elim)) fun _ _ h'=>h'.elim))
   | false =>
     rw [if_neg Bool.false_ne_true] at h₃;simp only [Bool.false_eq_true,if_false]
     first
       | exact wpAny_pure ⟨rfl,h₃⟩
       | exact wpAny_bind (wpAny_pure (wpAny_pure ⟨rfl,h₃⟩))
end
end L2
set_option Elab.async false
set_option linter.all false
set_option maxRecDepth 100000
namespace L2
open PySem PySem.Spec PyProof.Rows
section
variable {X:Cx} {Nc:List Str} {own:Nat} {js:List Nat} {scope:Scope} {cl:List (Str × Addr)}
theorem IH {pins:List (Addr × Obj)} {σ:St} {H₁:Hp} {s₂:Shared} {C:Addr} {fp:List Addr} (T:CompTxt X Nc own js scope cl) (I:Inv X pins σ H₁ s₂) (hC:s₂.heap.objs.size<=C)
   (f1:∀ b∈fp,lA X pins H₁ b) (hlt:∀ b∈fp,b<s₂.heap.objs.size):(X.comp Nc scope cl C s₂ H₁ fp).Ok where
 mod:=I.ok.mod
 kind:=by show (relabel scope X.env).kind=_;exact T.kind
 glob:=I.ok.glob
 blt:=I.ok.blt
 above:=hC
 inj:=fun x y c h1 h2=>I.ok.inj x y c (T.cells x c h1) (T.cells y c h2)
 has:=fun x h=>T.has x h
 cab:=fun x c h=>by cases h
 hd:=I.ok.hd
 frames:=I.ok.frames
 stk:=.inl rfl
 exf:=fun b hb=>⟨Nat.ne_of_lt (Nat.lt_of_lt_of_le (hlt b hb) hC),fun x c h=>(f1 b hb).2.2.2.2.1 x c (T.cells x c h)⟩
 bs:=I.bs
 bsz:=Nat.le_trans I.ok.bsz I.sz
 noex:=fun b o e hb=>by
   rcases (f1 b hb).2.2.2.1 with z|z
   . exact I.ok.noex b o e z
   . exact absurd (Nat.lt_of_lt_of_le (Heap.lt_size (I.ok.bs b o e).1) z) (Nat.lt_irrefl _)
 exfs:=fun b hb hs=>by
   rcases List.mem_cons.mp (I.stkSub b hs) with z|z
   . exact (f1 b hb).2.1 z
   . exact (f1 b hb).2.2.1 z
 funs:=I.stack
 frf:=I.stkFree
theorem Qd {pins:List (Addr × Obj)} {σ:St} {H₁:Hp} {s₂:Shared} {C D:Addr} {fp:List Addr} {h₁:Heap} {t:Nat} {m:Str->Option Value} (T:CompTxt X Nc own js scope cl) (I:Inv X pins σ H₁ s₂) (hC:s₂.heap.objs.size<=C)
   (hD:s₂.heap.objs.size<=D) (hDC:D≠C) (f1:∀ b∈fp,lA X pins H₁ b) (hlt:∀ b∈fp,b<s₂.heap.objs.size) (old:∀ b o,s₂.heap.get? b=some o->h₁.get? b=some o) (hns:h₁.Ns C m)
   (hacc:∃ n,h₁.get? D=some { cls:=.type "list",data:=.seq ([]:List Value).toArray n }) :
   Inv (X.comp Nc scope cl C s₂ H₁ fp) [] (gN own js σ) (upd H₁ D (.lst [])) { s₂ with heap:=h₁,toks:=t }:=by
 obtain ⟨na,hacc⟩:=hacc;have cellK:∀ c v,s₂.heap.IsCell c v->h₁.IsCell c v:=fun c v ⟨o,ho,hd⟩=>⟨o,old c o ho,hd⟩;refine ⟨IH T I hC f1 hlt,rfl,I.bare,Un.laid old hD (I.hok.fresh hD),⟨m,hns,fun i x v e1 e2 e3=>?_⟩,fun x c e=>?_,?_,fun x c e=>?_,fun p hp=>(by cases hp),I.hok.laid old hD ?_,?_⟩
 . have hN:Nc[i]?=some x:=e1;have hσ:(gN own js σ)[i]?=some (some v):=e2;unfold gN at hσ;by_cases hi:i<own
   . rw [List.getElem?_append_left (by simpa using hi),List.getElem?_replicate] at hσ;simp [hi] at hσ
   . obtain ⟨k,rfl⟩:∃ k,i=own+k:=⟨i - own,by omega⟩;rw [List.getElem?_append_right (by simp)] at hσ;simp only [List.length_replicate,Nat.add_sub_cancel_left,List.getElem?_map] at hσ;obtain ⟨j,hj,hx,hk,hr⟩:=T.outer k x hN;rw [hj] at hσ;replace hσ:some (σ[j]?.getD none)=some (some v):=hσ;have hσj:σ[j]?=some (some v):=by
       cases q:σ[j]? with
       | none=>rw [q] at hσ;simp at hσ
       | some y=>rw [q] at hσ;simpa using hσ
     obtain ⟨m0,hn0,hl0⟩:=I.loc;obtain ⟨u,ru,lk⟩:=hl0 j x v hx hσj (.inr (.inl hk));refine ⟨u,ru,.inr ⟨.inl hr,?_⟩⟩;rcases lk with ⟨z,_⟩|⟨_,c,hc,hcell⟩
     . have z':X.env.scope.names.lookup x=some .local:=z;rw [hk] at z';cases z'
     . obtain ⟨c',hc'⟩:=T.has x (.inl hr);have:=T.cells x c' hc';rw [hc] at this;cases this;exact ⟨c,hc',cellK c _ hcell⟩
 . obtain ⟨v,z⟩:=I.cell x c (T.cells x c e);exact ⟨v,cellK c v z⟩
 . show upd H₁ D (.lst []) C=none;rw [aq (Ne.symm hDC)];exact I.hok.fresh hC
 . have e':=T.cells x c e;obtain ⟨v,o,ho,_⟩:=I.cell x c e';rw [aq (Nat.ne_of_lt (Nat.lt_of_lt_of_le (Heap.lt_size ho) hD))];exact I.freeC x c e'
 . exact ⟨Nat.zero_le _,[],na,.nil,hacc⟩
 . show (gN own js σ).length=Nc.length;rw [T.len];simp [gN]
theorem Nq {pins:List (Addr × Obj)} {σ σc:St} {H₁ H':Hp} {s₂ s':Shared} {C:Addr} {fp:List Addr} {h':Heap} (I:Inv X pins σ H₁ s₂) (hC:s₂.heap.objs.size<=C)
   (f1:∀ b∈fp,lA X pins H₁ b) (I':Inv (X.comp Nc scope cl C s₂ H₁ fp) [] σc H' s') (hs:Heap.SameBut C s'.heap h'):Inv X pins σ H' { s' with heap:=h' }:=by
 have u:Un (frs X.stack) fp H₁ H' s₂.heap s'.heap:=I'.base;have ne:∀ b o,s₂.heap.get? b=some o->b≠C:=fun b o e=>Nat.ne_of_lt (Nat.lt_of_lt_of_le (Heap.lt_size e) hC);have k:∀ b o,b≠C->s'.heap.get? b=some o->h'.get? b=some o:=fun b o n e=>hs.extBut b o n e;have u':Un (frs X.stack) fp H₁ H' s₂.heap h':=⟨fun b o e n hb hx=>k b o (ne b o e) (u.keep b o e n hb hx),fun b o e n hb hx=>let ⟨sl,q⟩:=u.slot b o e n hb hx;⟨sl,k b _ (ne b o e) q⟩,
   u.free,fun b o e hx=>let ⟨o',q⟩:=u.there b o e hx;⟨o',k b o' (ne b o e) q⟩,u.tups,u.frzs,u.tbls⟩
 have hfree:H' C=none:=I'.free;have hok':HOk X.prog X.w H' h':=fun a o e=>(I'.hok a o e).stay (fun b v hb q=>k b v (fun z=>by
   rcases hb with y|y
   . rw [y] at z;rw [z,hfree] at e;cases e
   . rw [z,hfree] at y;cases y) q) (fun _ q=>q) fun _ _ q=>q
 exact I.call' (s':={ s' with heap:=h' }) (ch:=fp) I'.os u' hok' I'.bare fun b hb=>⟨(f1 b hb).2.2.2.1,(f1 b hb).2.1,(f1 b hb).2.2.2.2.1,(f1 b hb).2.2.2.2.2⟩
theorem Cz {elt target iter:Expr} {ifs:List Expr} {pos:Pos} {wi:TI} {g:TG} {tc:TT} {te:TE} (hc:X.calm=true) (T:CompTxt X Nc own js scope cl)
   (hi:PI X target iter wi) (hg:∀ C s₂ H₁ fp,PG (X.comp Nc scope cl C s₂ H₁ fp) target g) (ht:∀ C s₂ H₁ fp,PTs (X.comp Nc scope cl C s₂ H₁ fp) ifs tc)
   (he:∀ C s₂ H₁ fp,PE (X.comp Nc scope cl C s₂ H₁ fp) elt te) (hs:∀ x,foldedSetIterable iter X.env x=pure x:=by intro _;rfl) :
   PE X (.ListComp elt [⟨target,iter,ifs,0⟩] scope pos) (R1 own js wi g tc te):=by
 intro pins s σ H Q I h;rw [eval_ListComp];refine wpAny_comprehension_free (use:=none) rfl hs T.clos T.kind T.names (thn (hi pins s σ H _ I h) fun v s1 h1=>thn h1 fun itv s2 h2=>?_);obtain ⟨it,fp,tn,J,H1,rfl,I1,Tn,st,f1,R⟩:=h2;have hfp:∀ b∈fp,b<s2.heap.objs.size:=fun b hb=>let ⟨o,e,_⟩:=Tn.obj _ _ st b hb;Heap.lt_size e;refine wpAny_newObj_type (wpAny_newFunctionEnv T.nocell (by intro y hy;simp at hy) (fun h₁ hns₁ hsb₁=>?_) T.kind);dsimp only at hns₁ hsb₁ ⊢;generalize hH2:s2.heap.push { cls:=.type "list",dict:=none,data:=.seq ([]:List Value).toArray }=H2 at hns₁ hsb₁ ⊢;have hC:H2.objs.size=s2.heap.objs.size+1:=by rw [<- hH2,Heap.size_push]
 have hDC:s2.heap.objs.size≠H2.objs.size:=by rw [hC];exact Nat.ne_of_lt (Nat.lt_succ_self _)
 have hCle:s2.heap.objs.size<=H2.objs.size:=by rw [hC];exact Nat.le_succ _
 have below:∀ b,b<s2.heap.objs.size->b≠H2.objs.size:=fun b hb=>by rw [hC];exact Nat.ne_of_lt (Nat.lt_succ_of_lt hb)
 have old:∀ b o,s2.heap.get? b=some o->h₁.get? b=some o:=fun b o e=>hsb₁.extBut b o (below b (Heap.lt_size e)) (Heap.get?_push_of_some _ (hH2 ▸ Heap.get?_push_of_some _ e));have hacc:∃ n,h₁.get? s2.heap.objs.size=some { cls:=.type "list",data:=.seq ([]:List Value).toArray n }:=⟨_,hsb₁.extBut _ _ hDC (Heap.get?_push_of_some _ (hH2 ▸ Heap.get?_push_size _ rfl))⟩;have st₁:tn 0 h₁:=Tn.keep _ _ _ st fun b _ o e=>old b o e;obtain ⟨W,⟨m0,w0⟩,turn⟩:=R s2.heap.objs.size I1.fresh;have Ic:=Qd (t:=s2.toks+([]:List (Str × Value)).length) T I1 hCle (Nat.le_refl _) hDC f1 hfp old hns₁ hacc;generalize hXc:X.comp Nc scope cl H2.objs.size s2 H1 fp=Xc at Ic;have stat:∀ {H':Hp},(∀ b∈fp,H' b=none)->∀ b∈fp,lA Xc [] H' b:=fun {H'} hn b hb=>by
   subst hXc;exact ⟨hn b hb,below b (hfp b hb),(IH T I1 hCle f1 hfp).exfs b hb,.inl hb,fun x c e=>(f1 b hb).2.2.2.2.1 x c (T.cells x c e),fun p hp=>by cases hp⟩
 have fr0:∀ b∈fp,upd H1 s2.heap.objs.size (.lst []) b=none:=fun b hb=>by
   rw [aq (Nat.ne_of_lt (hfp b hb))];exact (f1 b hb).1
 have calmc:Xc.calm=true:=by subst hXc;exact hc
 have loop:∀ s₃:Shared,s₃={ s2 with heap:=h₁,toks:=s2.toks+([]:List (Str × Value)).length } ->
     codeAny (model X.prog X.w) X.A (.compLoop (.ListComp elt [⟨target,iter,ifs,0⟩] scope pos) 0 (.ref it) (.ref s2.heap.objs.size) (compEnvC scope cl H2.objs.size X.env))
       (compPost (model X.prog X.w) X.A X.xe none (EP X pins σ Q) (.ref s2.heap.objs.size) H2.objs.size) s₃:=by
   rintro s₃ rfl;refine HN (fun n s'=>∃ i ys σ' H',Inv Xc [] σ' H' s'/\tn i s'.heap/\(∀ b∈fp,H' b=none)/\W i n ys σ' H') ?_ m0 ⟨0,[],_,_,Ic,st₁,fr0,w0⟩;rintro n s3 ⟨i,ys,σ3,H3,I3,st3,fr3,w3⟩;rcases turn i n ys σ3 H3 w3 with ⟨stop,q⟩|⟨go,step⟩
   . subst hXc;refine thn (Tn.done (X.comp Nc scope cl H2.objs.size s2 H1 fp) rfl rfl rfl hc i [] s3 σ3 H3 _ I3 (stat fr3) st3 stop) fun r s4 ⟨hr,I4⟩=>?_;subst hr;obtain ⟨m4,hn4,_⟩:=id I4.loc;exact ⟨m4,hn4,fun h' hs'=>⟨.ref s2.heap.objs.size,H3,Nq I1 hCle f1 I4 hs',rfl,q⟩⟩
   . subst hXc;refine thn (Tn.item (X.comp Nc scope cl H2.objs.size s2 H1 fp) rfl rfl rfl hc i [] s3 σ3 H3 _ I3 (stat fr3) st3 go) fun r s4 ⟨u,hr,h4⟩=>?_;subst hr;refine thn h4 fun _ s5 ⟨x,H5,I5,r5,y5,st5,fr5⟩=>?_;have I5':=I5.pinned (stat fr5) (Tn.obj _ _ st5);have back:∀ {σ7:St} {H7:Hp} {s7:Shared},Inv (X.comp Nc scope cl H2.objs.size s2 H1 fp) ([]++yH fp s5.heap) σ7 H7 s7->Inv (X.comp Nc scope cl H2.objs.size s2 H1 fp) [] σ7 H7 s7/\tn (i+1) s7.heap/\∀ b∈fp,H7 b=none:=fun {σ7 H7 s7} I7=>by
       refine ⟨I7.unpinned,Tn.keep _ _ _ st5 fun b hb o e=>(I7.pin (b,o) (List.mem_append_right _ (List.mem_append_right _ (oM hb e)))).1,fun b hb=>?_⟩;obtain ⟨o,e,d⟩:=Tn.obj _ _ st5 b hb;exact (I7.pin (b,o) (List.mem_append_right _ (List.mem_append_right _ (oM hb e)))).2.1
     refine thn (hg _ _ _ _ _ s5 σ3 H5 x u _ I5' r5 (step x H5 y5)) fun _ s6 ⟨σ6,H6,I6,q6⟩=>?_;refine EX (ht _ _ _ _ _ s6 σ6 H6 _ I6 q6) fun ok s7 H7 I7 q7=>?_;cases ok with
     | false =>
       rw [if_neg Bool.false_ne_true] at q7 ⊢;obtain ⟨m',hm,w7⟩:=q7;obtain ⟨J1,J2,J3⟩:=back I7;exact ⟨m',hm,i+1,ys,σ6,H7,J1,J2,J3,w7⟩
     | true =>
       rw [if_pos rfl] at q7 ⊢;refine bn (he _ _ _ _ _ s7 σ6 H7 _ I7 q7) fun y s8 yv H8 I8 r8 ⟨hp8,hl8,m',hm,w8⟩=>?_;refine thn (ft _ s8 σ6 H8 (.ref s2.heap.objs.size) [yv] _ [y] (fun v' H'=>W (i+1) m' (ys++[yv]) σ6 H') I8 rfl (.cons r8 .nil) ⟨_,ys,yv,rfl,rfl,hp8,hl8,w8⟩) fun v9 s9 ⟨_,H9,I9,_,w9⟩=>?_;obtain ⟨J1,J2,J3⟩:=back I9;exact ⟨m',hm,i+1,ys++[yv],σ6,H9,J1,J2,J3,w9⟩
 exact codeAny_compStart_list (loop _ rfl) (Tn.self _ 0 _ _ _ st₁ (loop _ rfl))
end
end L2
set_option Elab.async false
set_option linter.all false
set_option maxRecDepth 100000
namespace L2
open PySem PySem.Spec PyProof.Rows
section
variable {X:Cx}
def rInsert:V->List V->Hp->VK->Prop:=fun x vs H Q=>∃ (l:Addr) (xs:List V) (i:Int) (y:V),x=.ref l/\vs=[.int i,y]/\H l=some (.lst xs)/\0<=i/\i<=xs.length/\xs.length<sizeLine/\Q .non (upd H l (.lst (xs.take i.toNat++y::xs.drop i.toNat)))
theorem NX:MtM X "list.insert" rInsert:=by
 intro pins s σ H x vs v us Q I rx rv h;obtain ⟨l,xs,i,y,rfl,rfl,hH,h0,hk,hz,q⟩:=h;cases rx;obtain ⟨u1,u2,rfl,⟨t,rfl⟩,ru⟩:=rv.two;obtain ⟨z,its,n,r,hl,e⟩:=I.lstM hH;have hn:=pB;have hf:Builtin.List.listFitsIndex i=true:=by
   unfold Builtin.List.listFitsIndex;rw [Bool.and_eq_true];exact ⟨decide_eq_true (by omega),decide_eq_true (by omega)⟩
 have hf':¬ (!Builtin.List.listFitsIndex i)=true:=by rw [hf];decide
 have hzz:its.toArray.size<=sizeLine:=by rw [List.size_toArray,<- hl];exact z
 refine call_meets PySem.F.slot_list_insert ⟨_,e,rfl⟩ PySem.F.entry_list_insert (PySem.F.args_list_insert_3 _ _ _) (PySem.AutoSeq1.list_insert_list_int_val_1 l its.toArray n i t u2 hf' hzz) ⟨e,?_⟩;refine ⟨.non,_,I.lset (its':=its.take i.toNat++u2::its.drop i.toNat) hH e ?_ ((r.take i.toNat).append (.cons ru (r.drop i.toNat))) ?_,rfl,q⟩
 . show (its.toArray.extract 0 (if i<0 then (i+(its.toArray.size:Int)).toNat else min i.toNat its.toArray.size)).push u2++its.toArray.extract (if i<0 then (i+(its.toArray.size:Int)).toNat else min i.toNat its.toArray.size)=_;have e0:(if i<0 then (i+(its.toArray.size:Int)).toNat else min i.toNat its.toArray.size)=i.toNat:=by
     rw [if_neg (by omega),List.size_toArray];omega
   rw [e0];exact PySem.W.kl_ins_eq its i.toNat u2
 . rw [List.length_append,List.length_cons,List.length_take,List.length_drop];omega
def Sf (K:PySem.W.Frag):List V->Hp->VK->Prop:=fun xs H Q=>∃ x c t b,xs=[x,c]/\TyOf K H x t/\(∀ cv,RelV c cv->PySem.W.kitOne K t cv=some b)/\Q (.bl b) H
theorem rE:jF X (.builtin "isinstance") (Sf X.K):=by
 intro pins s σ H xs us Q I r h;obtain ⟨x,c,t,b,rfl,ty,hk,q⟩:=h;obtain ⟨u,cv,rfl,ru,rc⟩:=EJ r;exact Nu I ru ty (hk cv rc) fun tk=>⟨.bl b,H,I.tok tk,rfl,q⟩
theorem Rz (hc:X.calm=true):jF X (.builtin "all") (fun xs H Q=>∃ (p:Addr) (bs:List Bool),xs=[.ref p]/\SqL X.K H p (bs.map V.bl)/\Q (.bl (bs.all id)) H):=by
 intro pins s σ H xs us Q I r h;obtain ⟨p,bs,rfl,hp,q⟩:=h;obtain ⟨u,rfl,ru⟩:=qP r;cases ru;obtain ⟨its,rv,pl,hz⟩:=I.list hp;have hl:=pl.isList;have hlt:=pl.lt;have hh:X.A.in1.handled=none:=I.ok.hd hc;have hlen:its.length=bs.length:=by rw [<- rv.length,List.length_map]
 refine call_all_walk (wpAny_pyIter_list hl ?_);refine ⟨s.heap.objs.size,[s.heap.objs.size,p],[s.heap.objs.size],its.toArray.size,_,_,fun i=>(bs[i]?).getD true,rfl,Walks.list (A:=X.A.in1) hh _ p (Nat.ne_of_lt hlt) its.toArray,
   ⟨⟨_,Heap.get?_push_size _ rfl,rfl,rfl⟩,hl.push _⟩,fun i v s' Q' E' hP hQ=>?_,fun h' tk hk=>?_⟩
 . have hi:its[i]?=some v:=by simpa using hP
   have hib:i<bs.length:=by rw [<- hlen];exact (List.getElem?_eq_some_iff.mp hi).1
   obtain ⟨u,hu,ru⟩:=rv.get (i:=i) (x:=V.bl bs[i]) (by rw [List.getElem?_map,List.getElem?_eq_getElem hib];rfl);rw [hi] at hu;cases hu;cases ru;replace hQ:Q' (bs[i]?.getD true) s':=hQ;rw [List.getElem?_eq_getElem hib] at hQ;exact wpAny_truthy_bool hQ
 . have e:((List.range its.toArray.size).all fun i=>(bs[i]?).getD true)=bs.all id:=by
     rw [List.size_toArray,hlen];rw [Bool.eq_iff_iff,List.all_eq_true,List.all_eq_true]
     constructor
     . intro z b hb;obtain ⟨i,hi,rfl⟩:=List.getElem_of_mem hb;have:=z i (List.mem_range.mpr hi);rw [List.getElem?_eq_getElem hi] at this;exact this
     . intro z i hi;have hi':=List.mem_range.mp hi;rw [List.getElem?_eq_getElem hi'];exact z _ (List.getElem_mem hi')
   have kk:∀ b o,s.heap.get? b=some o->h'.get? b=some o:=fun b o eb=>hk b o (fun hm=>by rw [List.mem_singleton.mp hm] at eb;exact Nat.lt_irrefl _ (Heap.lt_size eb)) (Heap.get?_push_of_some _ eb);rw [e];exact ⟨.bl _,H,I.kept (t':=tk) kk,rfl,q⟩
end
section
variable {X:Cx}
end
end L2
set_option Elab.async false
set_option linter.all false
set_option maxRecDepth 100000
namespace L2
open PySem PySem.Spec PyProof.Rows
structure SubF (P:Program) (w:World) (l:Addr) (ob:Obj) (src:Heap->Array Value->Prop) (at':Addr->Nat->Heap->Prop):Prop where
 start:∀ (A:Around) (s:Shared) (vs:Array Value) (Q:Value->Shared->Prop) (E:Value->Shared->Prop),src s.heap vs->Q (.ref s.heap.objs.size) { s with heap:=s.heap.push ob }->wpAny (model P w) A (pyIter (.ref l)) Q E s
 first:∀ it h,h.get? it=some ob->at' it 0 h
 atK:∀ it i h h',at' it i h->(∀ o,h.get? it=some o->h'.get? it=some o)->at' it i h'
 srcK:∀ h h' vs,src h vs->(∀ o,h.get? l=some o->h'.get? l=some o)->src h' vs
 obj:∀ it i h,at' it i h->∃ o,h.get? it=some o/\∀ v,o.data≠.cell v
 item:∀ (A:Around) (s:Shared) (it:Addr) (i:Nat) (vs:Array Value) (x:Value) (Q:Value->Shared->Prop) (E:Value->Shared->Prop),at' it i s.heap->src s.heap vs->vs[i]?=some x ->
   (∀ h',at' it (i+1) h'->Heap.SameBut it s.heap h'->Q x { s with heap:=h' })->wpAny (model P w) A (Builtin.SmallTypes.nextOf (.ref it)) Q E s
 fin:∀ (A:Around) (s:Shared) (it:Addr) (i:Nat) (vs:Array Value) (Q:Value->Shared->Prop) (E:Value->Shared->Prop),A.handled=none->at' it i s.heap->src s.heap vs->vs[i]?=none ->
   (∀ h' e,Heap.ExtBut it s.heap h'->(∃ o,h'.get? e=some o/\o.cls=.type "StopIteration")->E (.ref e) { s with heap:=h' })->wpAny (model P w) A (Builtin.SmallTypes.nextOf (.ref it)) Q E s
theorem On {P:Program} {w:World} (l:Addr):SubF P w l { cls:=.type "list_iterator",data:=.fields #[.ref l,.int 0 0] } (fun h vs=>h.IsList l vs) (fun it i h=>h.IsListIter it l i) where
 start:=fun A s vs Q E hl hq=>wpAny_pyIter_list hl hq
 first:=fun it h e=>⟨_,e,rfl,rfl⟩
 atK:=fun it i h h' x k=>x.at k
 srcK:=fun h h' vs x k=>x.at k
 obj:=fun it i h x=>by
   obtain ⟨o,ho,_,hd⟩:=x;exact ⟨o,ho,fun v z=>by rw [hd] at z;cases z⟩
 item:=fun A s it i vs x Q E ha hs hx hq=>wpAny_nextOf_list_item ha hs hx hq
 fin:=fun A s it i vs Q E hh ha hs hx hq=>wpAny_nextOf_list_end hh ha hs hx hq
section
variable {P:Program} {w:World} {A:Around} {E:Value->Shared->Prop} {s:Shared}
theorem za {it t:Addr} {i:Nat} {vs:Array Value} {x:Value} {Q:Value->Shared->Prop} (hi:s.heap.IsTupleIter it t i) (ht:s.heap.IsTuple t vs) (hx:vs[i]?=some x)
   (hq:∀ h',h'.IsTupleIter it t (i+1)->Heap.SameBut it s.heap h'->Q x { s with heap:=h' }):wpAny (model P w) A (Builtin.SmallTypes.nextOf (.ref it)) Q E s:=by
 obtain ⟨oi,hoi,hci,hdi⟩:=id hi;obtain ⟨ot,hot,_,nt,hdt⟩:=ht;unfold Builtin.SmallTypes.nextOf;refine wpAny_bind (wpAny_callSpecial?_slot (name:=Str.ofString "__next__") hi.typeIs F.slot_tuple_iterator_next (wpAny_call_entry F.slot_tuple_iterator_next hi.typeIs F.entry_tuple_iterator_next ?_ (F.args_tuple_iterator_next_1 _)));show wpAny (model P w) _ (field (.ref it) 0 >>= _) _ _ s;refine wpAny_bind (wpAny_field hoi hdi (x:=.ref t) rfl ?_);show wpAny (model P w) _ (if (Value.ref t == Value.none)=true then _ else _) _ _ s;rw [if_neg (by exact Bool.false_ne_true)];show wpAny (model P w) _ (field (.ref it) 1 >>= _) _ _ s;refine wpAny_bind (wpAny_field hoi hdi (x:=.int i 0) rfl ?_);show wpAny (model P w) _ (seqItems? (.ref t) >>= _) _ _ s;refine wpAny_bind (wpAny_seqItems hot hdt ?_);simp only [Int.toNat_natCast,hx];refine wpAny_bind (wpAny_setField hoi hdi (by simp) (wpAny_pure ⟨x,rfl,wpAny_pure (hq _ ?_ (Heap.SameBut.update ..))⟩));exact ⟨_,Heap.get?_update_self _ hoi (Obj.isFreed_of_fields (Obj.data_mapFields hdi _)),(Obj.cls_mapFields ..).trans hci,by rw [Obj.data_mapFields hdi];simp [rawInt]⟩
theorem zW {it t:Addr} {i:Nat} {vs:Array Value} {Q:Value->Shared->Prop} (hh:A.handled=none) (hi:s.heap.IsTupleIter it t i) (ht:s.heap.IsTuple t vs) (hx:vs[i]?=none)
   (hE:∀ h' e,Heap.ExtBut it s.heap h'->(∃ o,h'.get? e=some o/\o.cls=.type "StopIteration")->E (.ref e) { s with heap:=h' }):wpAny (model P w) A (Builtin.SmallTypes.nextOf (.ref it)) Q E s:=by
 obtain ⟨oi,hoi,hci,hdi⟩:=id hi;obtain ⟨ot,hot,_,nt,hdt⟩:=ht;unfold Builtin.SmallTypes.nextOf;refine wpAny_bind (wpAny_callSpecial?_slot (name:=Str.ofString "__next__") hi.typeIs F.slot_tuple_iterator_next (wpAny_call_entry F.slot_tuple_iterator_next hi.typeIs F.entry_tuple_iterator_next ?_ (F.args_tuple_iterator_next_1 _)));show wpAny (model P w) _ (field (.ref it) 0 >>= _) _ _ s;refine wpAny_bind (wpAny_field hoi hdi (x:=.ref t) rfl ?_);show wpAny (model P w) _ (if (Value.ref t == Value.none)=true then _ else _) _ _ s;rw [if_neg (by exact Bool.false_ne_true)];show wpAny (model P w) _ (field (.ref it) 1 >>= _) _ _ s;refine wpAny_bind (wpAny_field hoi hdi (x:=.int i 0) rfl ?_);show wpAny (model P w) _ (seqItems? (.ref t) >>= _) _ _ s;refine wpAny_bind (wpAny_seqItems hot hdt ?_);simp only [Int.toNat_natCast,hx];refine wpAny_bind (wpAny_rule (wpAny_bind (wpAny_setField hoi hdi (by simp) ?_)));show wpAny (model P w) _ (newExc (.type "StopIteration") [] >>= _) _ _ _;refine wpAny_bind ?_;simp only [newExc,newTuple];refine wpAny_bind (wpAny_newObj_type ?_ (by size_fits));refine wpAny_bind (m:=firstArgMember _ _) (wpAny_of_eq (a:=Value.none) (by first|rfl|(simp only [firstArgMember];rfl)) ?_);refine wpAny_newObj_type ?_ (by size_fits);simp only [raiseNew];refine wpAny_bind (wpAny_handled ?_)
 first|rw [show A.in1.handled=none from hh]|rw [hh]
 refine wpAny_bind (wpAny_pure (wpAny_throw ?_));exact hE _ _ (((Heap.SameBut.update ..).extBut.push _).push _) ⟨_,Heap.get?_push_size _ rfl,rfl⟩
end
theorem PF {P:Program} {w:World} (l:Addr):SubF P w l { cls:=.type "tuple_iterator",data:=.fields #[.ref l,.int 0 0] } (fun h vs=>h.IsTuple l vs) (fun it i h=>h.IsTupleIter it l i) where
 start:=fun A s vs Q E hl hq=>wpAny_pyIter_tuple hl hq
 first:=fun it h e=>⟨_,e,rfl,rfl⟩
 atK:=fun it i h h' x k=>let ⟨o,ho,r⟩:=x;⟨o,k o ho,r⟩
 srcK:=fun h h' vs x k=>let ⟨o,ho,r⟩:=x;⟨o,k o ho,r⟩
 obj:=fun it i h x=>by
   obtain ⟨o,ho,_,hd⟩:=x;exact ⟨o,ho,fun v z=>by rw [hd] at z;cases z⟩
 item:=fun A s it i vs x Q E ha hs hx hq=>za ha hs hx hq
 fin:=fun A s it i vs Q E hh ha hs hx hq=>zW hh ha hs hx hq
end L2
set_option Elab.async false
set_option linter.all false
set_option maxRecDepth 100000
namespace L2
open PySem PySem.Spec PyProof.Rows
structure ZAp (z TI TO i1 i2 l1 l2:Addr):Prop where
 a1:TI≠z
 a2:TO≠z
 a3:i1≠z
 a4:i2≠z
 a5:TI≠TO
 a6:TI≠i1
 a7:TI≠i2
 a8:TO≠i1
 a9:TO≠i2
 a0:i1≠i2
 b1:l1≠z/\l1≠TO/\l1≠i1/\l1≠i2
 b2:l2≠z/\l2≠TO/\l2≠i1/\l2≠i2
section
variable {P:Program} {w:World} {A:Around} {E:Value->Shared->Prop} {s:Shared} {l1 l2:Addr} {ob1 ob2:Obj} {src1 src2:Heap->Array Value->Prop} {at1 at2:Addr->Nat->Heap->Prop}
theorem FK (S1:SubF P w l1 ob1 src1 at1) (S2:SubF P w l2 ob2 src2 at2) {z TI TO i1 i2:Addr} {k1 k2:Nat} {xs ys:Array Value} {x y a b:Value} {Q:Value->Shared->Prop} (D:ZAp z TI TO i1 i2 l1 l2)
   (Hz:IsZip s.heap z TI TO .none) (HI:IsPair s.heap TI (.ref i1) (.ref i2)) (HO':IsPair s.heap TO a b) (p1:at1 i1 k1 s.heap) (p2:at2 i2 k2 s.heap) (q1:src1 s.heap xs) (q2:src2 s.heap ys) (hx:xs[k1]?=some x) (hy:ys[k2]?=some y)
   (hQ:∀ h',IsZip h' z TI TO (rawInt s.heap.objs.size)->IsPair h' TO x y->at1 i1 (k1+1) h'->at2 i2 (k2+1) h'->IsPair h' s.heap.objs.size x y->h'.objs.size=s.heap.objs.size+1 ->
     (∀ c o,c≠z->c≠TO->c≠i1->c≠i2->s.heap.get? c=some o->h'.get? c=some o)->Q (.ref s.heap.objs.size) { s with heap:=h' }) :
   wpAny (model P w) A (Builtin.«zip.__next__» ⟨[.ref z],[]⟩) (fun fn s'=>∃ v,fn=.done (.ret v)/\Q v s') E s:=by
 show wpAny (model P w) _ (field (.ref z) 2 >>= _) _ _ _;refine wpAny_bind (wpAny_field Hz rfl (x:=.bool false) rfl ?_);show wpAny (model P w) _ (field (.ref z) 3 >>= _) _ _ _;refine wpAny_bind (wpAny_field Hz rfl (x:=.ref TI) rfl ?_);refine wpAny_bind (wpAny_seqItems HI rfl ?_);show wpAny (model P w) _ (Builtin.SmallTypes.ownedTupleIsFree (.ref z) >>= _) _ _ _;refine wpAny_bind ?_;unfold Builtin.SmallTypes.ownedTupleIsFree;refine wpAny_bind (wpAny_field Hz rfl (x:=.none) rfl (wpAny_pure ?_));simp only [if_true];refine wpAny_bind (wpAny_rule ?_);refine wpAny_bind (wpAny_field Hz rfl (x:=.ref TO) rfl ?_);refine wpAny_bind (wpAny_setField_rec Hz (by simp) fun g1 z1 e1=>?_);replace z1:IsZip g1 z TI TO .ellipsis:=z1;refine wpAny_bind ?_;simp only [List.zipIdx_cons,List.zipIdx_nil,List.forIn_cons,List.forIn_nil];refine wpAny_bind (wpAny_bind (wpAny_onRaise ?_));show wpAny (model P w) _ (Builtin.SmallTypes.nextOf (.ref i1) >>= _) _ _ _;refine wpAny_bind (S1.item _ { s with heap:=g1 } i1 k1 xs x _ _ (S1.atK _ _ _ _ p1 fun o e=>e1.extBut _ _ D.a3 e) (S1.srcK _ _ _ q1 fun o e=>e1.extBut _ _ D.b1.1 e) hx fun g2 p1b e2=>wpAny_pure ?_);have o2:IsPair g2 TO a b:=e2.extBut _ _ D.a8 (e1.extBut _ _ D.a2 HO');refine wpAny_bind (wpAny_seqItems o2 rfl ?_);refine wpAny_bind (wpAny_updateSeq_pair o2 fun g3 o3 e3=>?_);replace o3:IsPair g3 TO x b:=o3;refine wpAny_bind (wpAny_letGo (wpAny_pure ?_));refine wpAny_bind (wpAny_bind (wpAny_onRaise ?_));show wpAny (model P w) _ (Builtin.SmallTypes.nextOf (.ref i2) >>= _) _ _ _;refine wpAny_bind (S2.item _ { s with heap:=g3 } i2 k2 ys y _ _ (S2.atK _ _ _ _ p2 fun o e=>e3.extBut _ _ D.a9.symm (e2.extBut _ _ D.a0.symm (e1.extBut _ _ D.a4 e))) (S2.srcK _ _ _ q2 fun o e=>e3.extBut _ _ D.b2.2.1 (e2.extBut _ _ D.b2.2.2.1 (e1.extBut _ _ D.b2.1 e))) hy fun g4 p2b e4=>wpAny_pure ?_);have o4:IsPair g4 TO x b:=e4.extBut _ _ D.a9 o3;refine wpAny_bind (wpAny_seqItems o4 rfl ?_);refine wpAny_bind (wpAny_updateSeq_pair o4 fun g5 o5 e5=>?_);replace o5:IsPair g5 TO x y:=o5;refine wpAny_bind (wpAny_letGo (wpAny_pure (wpAny_pure ?_)));refine wpAny_bind (wpAny_seqItems o5 rfl ?_);refine wpAny_bind (wpAny_newTuple ?_);have sz:g5.objs.size=s.heap.objs.size:=by rw [e5.1,e4.1,e3.1,e2.1,e1.1]
 have z5:IsZip g5 z TI TO .ellipsis:=e5.extBut _ _ D.a2.symm (e4.extBut _ _ D.a4.symm (e3.extBut _ _ D.a2.symm (e2.extBut _ _ D.a3.symm z1)));have k5:∀ c o,c≠z->c≠TO->c≠i1->c≠i2->s.heap.get? c=some o->g5.get? c=some o:=fun c o c1 c2 c3 c4 e =>
   e5.extBut _ _ c2 (e4.extBut _ _ c4 (e3.extBut _ _ c2 (e2.extBut _ _ c3 (e1.extBut _ _ c1 e))))
 have p15:at1 i1 (k1+1) g5:=S1.atK _ _ _ _ p1b fun o e=>e5.extBut _ _ D.a8.symm (e4.extBut _ _ D.a0 (e3.extBut _ _ D.a8.symm e));have p25:at2 i2 (k2+1) g5:=S2.atK _ _ _ _ p2b fun o e=>e5.extBut _ _ D.a9.symm e;have zlt:z<g5.objs.size:=Heap.lt_size z5;show wpAny (model P w) _ (Builtin.SmallTypes.ownedTupleHandOut (.ref z) (.ref g5.objs.size) >>= _) _ _ _;refine wpAny_bind ?_;unfold Builtin.SmallTypes.ownedTupleHandOut;have z6:IsZip (g5.push { cls:=.type "tuple",data:=.seq #[x,y] }) z TI TO .ellipsis:=Heap.get?_push_of_some _ z5;refine wpAny_bind (wpAny_setField_rec z6 (by simp) fun g7 z7 e7=>?_);replace z7:IsZip g7 z TI TO (rawInt g5.objs.size):=z7;refine wpAny_setField_rec z7 (by simp) fun g8 z8 e8=>?_;replace z8:IsZip g8 z TI TO (rawInt g5.objs.size):=z8;have up:∀ c o,c≠z->g5.get? c=some o->g8.get? c=some o:=fun c o c1 e=>e8.extBut _ _ c1 (e7.extBut _ _ c1 (Heap.get?_push_of_some _ e));have t8:IsPair g8 g5.objs.size x y:=e8.extBut _ _ (Nat.ne_of_gt zlt) (e7.extBut _ _ (Nat.ne_of_gt zlt) (Heap.get?_push_size _ rfl));have s8:g8.objs.size=g5.objs.size+1:=by rw [e8.1,e7.1,Heap.size_push]
 rw [sz] at z8 t8 s8;refine wpAny_pure ⟨_,rfl,?_⟩;show Q (.ref g5.objs.size) _;rw [sz];exact hQ g8 z8 (up _ _ D.a2 o5) (S1.atK _ _ _ _ p15 fun o e=>up _ o D.a3 e) (S2.atK _ _ _ _ p25 fun o e=>up _ o D.a4 e) t8 s8 fun c o c1 c2 c3 c4 e=>up c o c1 (k5 c o c1 c2 c3 c4 e)
theorem Hk (S1:SubF P w l1 ob1 src1 at1) (S2:SubF P w l2 ob2 src2 at2) {z TI TO i1 i2:Addr} {k1 k2:Nat} {xs ys:Array Value} {a b:Value} {Q:Fin->Shared->Prop} (hh:A.handled=none) (D:ZAp z TI TO i1 i2 l1 l2)
   (Hz:IsZip s.heap z TI TO .none) (HI:IsPair s.heap TI (.ref i1) (.ref i2)) (HO':IsPair s.heap TO a b) (p1:at1 i1 k1 s.heap) (p2:at2 i2 k2 s.heap) (q1:src1 s.heap xs) (q2:src2 s.heap ys) (hend:xs[k1]?=none\/ys[k2]?=none)
   (hE:∀ h' e,(∀ c o,c≠z->c≠TO->c≠i1->c≠i2->s.heap.get? c=some o->h'.get? c=some o)->(∃ o,h'.get? e=some o/\o.cls=.type "StopIteration")->E (.ref e) { s with heap:=h' }) :
   wpAny (model P w) A (Builtin.«zip.__next__» ⟨[.ref z],[]⟩) Q E s:=by
 show wpAny (model P w) _ (field (.ref z) 2 >>= _) _ _ _;refine wpAny_bind (wpAny_field Hz rfl (x:=.bool false) rfl ?_);show wpAny (model P w) _ (field (.ref z) 3 >>= _) _ _ _;refine wpAny_bind (wpAny_field Hz rfl (x:=.ref TI) rfl ?_);refine wpAny_bind (wpAny_seqItems HI rfl ?_);show wpAny (model P w) _ (Builtin.SmallTypes.ownedTupleIsFree (.ref z) >>= _) _ _ _;refine wpAny_bind ?_;unfold Builtin.SmallTypes.ownedTupleIsFree;refine wpAny_bind (wpAny_field Hz rfl (x:=.none) rfl (wpAny_pure ?_));simp only [if_true];refine wpAny_bind (wpAny_rule ?_);refine wpAny_bind (wpAny_field Hz rfl (x:=.ref TO) rfl ?_);refine wpAny_bind (wpAny_setField_rec Hz (by simp) fun g1 z1 e1=>?_);replace z1:IsZip g1 z TI TO .ellipsis:=z1;refine wpAny_bind ?_;simp only [List.zipIdx_cons,List.zipIdx_nil,List.forIn_cons,List.forIn_nil];refine wpAny_bind (wpAny_bind (wpAny_onRaise ?_));show wpAny (model P w) _ (Builtin.SmallTypes.nextOf (.ref i1) >>= _) _ _ _;have p1a:at1 i1 k1 g1:=S1.atK _ _ _ _ p1 fun o e=>e1.extBut _ _ D.a3 e;have q1a:src1 g1 xs:=S1.srcK _ _ _ q1 fun o e=>e1.extBut _ _ D.b1.1 e;cases hx:xs[k1]? with
 | none =>
   refine wpAny_bind (S1.fin _ { s with heap:=g1 } i1 k1 xs _ _ hh p1a q1a hx fun g2 e e2 he=>?_);obtain ⟨oe,hoe,hce⟩:=he;have z2:IsZip g2 z TI TO .ellipsis:=e2 _ _ D.a3.symm z1;have ez:e≠z:=fun t=>by subst t;rw [z2] at hoe;cases hoe;simp at hce
   refine wpAny_setField_rec z2 (by simp) fun g3 _ e3=>hE g3 e (fun c o c1 _ c3 _ t=>e3.extBut _ _ c1 (e2 _ _ c3 (e1.extBut _ _ c1 t))) ⟨oe,e3.extBut _ _ ez hoe,hce⟩
 | some x =>
   have hy:ys[k2]?=none:=by
     rcases hend with h|h
     . rw [hx] at h;cases h
     . exact h
   refine wpAny_bind (S1.item _ { s with heap:=g1 } i1 k1 xs x _ _ p1a q1a hx fun g2 p1b e2=>wpAny_pure ?_);have o2:IsPair g2 TO a b:=e2.extBut _ _ D.a8 (e1.extBut _ _ D.a2 HO');refine wpAny_bind (wpAny_seqItems o2 rfl ?_);refine wpAny_bind (wpAny_updateSeq_pair o2 fun g3 o3 e3=>?_);refine wpAny_bind (wpAny_letGo (wpAny_pure ?_));refine wpAny_bind (wpAny_bind (wpAny_onRaise ?_));show wpAny (model P w) _ (Builtin.SmallTypes.nextOf (.ref i2) >>= _) _ _ _;refine wpAny_bind (S2.fin _ { s with heap:=g3 } i2 k2 ys _ _ hh (S2.atK _ _ _ _ p2 fun o e=>e3.extBut _ _ D.a9.symm (e2.extBut _ _ D.a0.symm (e1.extBut _ _ D.a4 e))) (S2.srcK _ _ _ q2 fun o e=>e3.extBut _ _ D.b2.2.1 (e2.extBut _ _ D.b2.2.2.1 (e1.extBut _ _ D.b2.1 e))) hy fun g4 e e4 he=>?_);obtain ⟨oe,hoe,hce⟩:=he;have z4:IsZip g4 z TI TO .ellipsis:=e4 _ _ D.a4.symm (e3.extBut _ _ D.a2.symm (e2.extBut _ _ D.a3.symm z1));have ez:e≠z:=fun t=>by subst t;rw [z4] at hoe;cases hoe;simp at hce
   refine wpAny_setField_rec z4 (by simp) fun g5 _ e5=>hE g5 e (fun c o c1 c2 c3 c4 t=>e5.extBut _ _ c1 (e4 _ _ c4 (e3.extBut _ _ c2 (e2.extBut _ _ c3 (e1.extBut _ _ c1 t))))) ⟨oe,e5.extBut _ _ ez hoe,hce⟩
abbrev zp1 (h:Heap) (ob1 ob2:Obj):Heap:=(h.push ob1).push ob2
abbrev zp2 (h:Heap) (ob1 ob2:Obj):Heap:=(zp1 h ob1 ob2).push { cls:=.type "tuple",data:=.seq #[.ref h.objs.size,.ref (h.push ob1).objs.size] }
abbrev zp3 (h:Heap) (ob1 ob2:Obj):Heap:=(zp2 h ob1 ob2).push { cls:=.type "tuple",data:=.seq #[.none,.none] }
abbrev zp4 (h:Heap) (ob1 ob2:Obj):Heap:=(zp3 h ob1 ob2).push { cls:=.type "zip",data:=.fields #[.none,.bool false,.bool false,.ref (zp1 h ob1 ob2).objs.size,.ref (zp2 h ob1 ob2).objs.size] }
theorem Eg (S1:∀ P w,SubF P w l1 ob1 src1 at1) (S2:∀ P w,SubF P w l2 ob2 src2 at2) (ne:∀ h vs,src2 h vs->∃ o,h.get? l2=some o) (xs ys:Array Value) :
   Meets (Builtin.«zip.__new__» ⟨[.type "zip",.ref l1,.ref l2],[]⟩) (fun _ R s=>src1 s.heap xs/\src2 s.heap ys/\R (.ok (.ret (.ref (zp3 s.heap ob1 ob2).objs.size))) { s with heap:=zp4 s.heap ob1 ob2 }) :=
 .of_wp fun prog w A R s hyp=>by
   obtain ⟨hp,g,d,tk,os⟩:=s;obtain ⟨q1,q2,r⟩:=hyp;have zsub:=sub_zip;have B1:src1 (Shared.heap ⟨hp,g,d,tk,os⟩) xs:=q1;have B2:src2 (Shared.heap ⟨hp.push ob1,g,d,tk,os⟩) ys:=(S2 prog w).srcK _ _ _ q2 fun o e=>Heap.get?_push_of_some _ e
   wp_walk using ((S1 prog w).start _ _ _ _ _ B1),((S2 prog w).start _ _ _ _ _ B2)
   exact ⟨_,rfl,r⟩
theorem QK (S1:∀ P w,SubF P w l1 ob1 src1 at1) (S2:∀ P w,SubF P w l2 ob2 src2 at2) (ne:∀ h vs,src2 h vs->∃ o,h.get? l2=some o) {xs ys:Array Value} {Q:Value->Shared->Prop} (q1:src1 s.heap xs) (q2:src2 s.heap ys)
   (h:∀ h',IsZip h' (s.heap.objs.size+4) (s.heap.objs.size+2) (s.heap.objs.size+3) .none->IsPair h' (s.heap.objs.size+2) (.ref s.heap.objs.size) (.ref (s.heap.objs.size+1)) ->
     IsPair h' (s.heap.objs.size+3) .none .none->at1 s.heap.objs.size 0 h'->at2 (s.heap.objs.size+1) 0 h' ->
     (∀ c o,s.heap.get? c=some o->h'.get? c=some o)->Q (.ref (s.heap.objs.size+4)) { s with heap:=h' }) (f1:ob1.isFreed=false) (f2:ob2.isFreed=false) :
   wpAny (model P w) A (call (.type "zip") [.ref l1,.ref l2]) Q E s:=by
 refine callType_new F.called_zip (by decide) (F.typeCall_zip_2 _ _) (F.newCall_zip_2 _ _) (fun obj=>F.args_object_init_3 obj _ _) F.entry_zip_new (Eg S1 S2 ne xs ys) ⟨q1,q2,?_⟩;have n0:(s.heap.push ob1).objs.size=s.heap.objs.size+1:=Heap.size_push ..;have n1:(zp1 s.heap ob1 ob2).objs.size=s.heap.objs.size+2:=by rw [Heap.size_push,n0]
 have n2:(zp2 s.heap ob1 ob2).objs.size=s.heap.objs.size+3:=by rw [Heap.size_push,n1]
 have n3:(zp3 s.heap ob1 ob2).objs.size=s.heap.objs.size+4:=by rw [Heap.size_push,n2]
 have c5:(zp4 s.heap ob1 ob2).get? (zp3 s.heap ob1 ob2).objs.size=some _:=Heap.get?_push_size _ rfl;have c4:(zp4 s.heap ob1 ob2).get? (zp2 s.heap ob1 ob2).objs.size=some _:=Heap.get?_push_of_some _ (Heap.get?_push_size _ rfl);have c3:(zp4 s.heap ob1 ob2).get? (zp1 s.heap ob1 ob2).objs.size=some _:=Heap.get?_push_of_some _ (Heap.get?_push_of_some _ (Heap.get?_push_size _ rfl));have c2:(zp4 s.heap ob1 ob2).get? (s.heap.push ob1).objs.size=some ob2:=Heap.get?_push_of_some _ (Heap.get?_push_of_some _ (Heap.get?_push_of_some _ (Heap.get?_push_size _ f2)));have c1:(zp4 s.heap ob1 ob2).get? s.heap.objs.size=some ob1:=Heap.get?_push_of_some _ (Heap.get?_push_of_some _ (Heap.get?_push_of_some _ (Heap.get?_push_of_some _ (Heap.get?_push_size _ f1))));show _/\_;rw [n1,n2,n3] at c5;rw [n0,n1] at c3;rw [n2] at c4;rw [n0] at c2;rw [n3];exact ⟨⟨_,c5,rfl⟩,h _ c5 c3 c4 ((S1 P w).first _ _ c1) ((S2 P w).first _ _ c2) fun c o e=>Heap.get?_push_of_some _ (Heap.get?_push_of_some _ (Heap.get?_push_of_some _ (Heap.get?_push_of_some _ (Heap.get?_push_of_some _ e))))⟩
end
def SqX (K:PySem.W.Frag):Bool->Hp->Addr->List V->Prop
 | true,H,a,xs=>SqL K H a xs
 | false,H,a,xs=>SqT K H a xs
def Itz (K:PySem.W.Frag) (c d:Bool) (a b:Addr):It :=
 ⟨fun i H=>∃ xs ys x y,SqX K c H a xs/\SqX K d H b ys/\xs[i]?=some x/\ys[i]?=some y,
  fun i H v H'=>∃ p x y,H p=none/\v=.ref p/\H'=upd H p (.tup [x,y])/\(∀ xs,SqX K c H a xs->xs[i]?=some x)/\∀ ys,SqX K d H b ys->ys[i]?=some y,
  fun i H=>∃ xs ys,SqX K c H a xs/\SqX K d H b ys/\(xs.length<=i\/ys.length<=i)⟩
def Ud (a:Addr):Bool->Obj
 | true=>{ cls:=.type "list_iterator",data:=.fields #[.ref a,.int 0 0] }
 | false=>{ cls:=.type "tuple_iterator",data:=.fields #[.ref a,.int 0 0] }
def MX (a:Addr):Bool->Heap->Array Value->Prop
 | true,h,vs=>h.IsList a vs
 | false,h,vs=>h.IsTuple a vs
def zAt (a:Addr):Bool->Addr->Nat->Heap->Prop
 | true,it,i,h=>h.IsListIter it a i
 | false,it,i,h=>h.IsTupleIter it a i
theorem eu (a:Addr) (c:Bool) (P:Program) (w:World):SubF P w a (Ud a c) (MX a c) (zAt a c):=by
 cases c
 . exact PF a
 . exact On a
theorem xD (a:Addr) (c:Bool):(Ud a c).isFreed=false:=by cases c <;> rfl
theorem o0 (a:Addr) (c:Bool) (h:Heap) (vs:Array Value) (e:MX a c h vs):∃ o,h.get? a=some o:=by
 cases c
 . obtain ⟨o,ho,_⟩:=e;exact ⟨o,ho⟩
 . obtain ⟨o,ho,_⟩:=e;exact ⟨o,ho⟩
theorem Inv.sqX {X:Cx} {pins:List (Addr × Obj)} {σ:St} {H:Hp} {s:Shared} {c:Bool} {a:Addr} {xs:List V} (I:Inv X pins σ H s) (h:SqX X.K c H a xs):∃ its:List Value,Vals xs its/\MX a c s.heap its.toArray:=by
 cases c with
 | true =>
   obtain ⟨its,r,pl,_⟩:=I.list h;exact ⟨its,r,pl.isList⟩
 | false =>
   obtain ⟨its,r,⟨o,ho,hc,n,hd⟩,_⟩:=I.tuple h;exact ⟨its,r,⟨o,ho,hc,n,hd⟩⟩
theorem Inv.sqX_inj {X:Cx} {pins:List (Addr × Obj)} {σ:St} {H:Hp} {s:Shared} {c:Bool} {a:Addr} {xs ys:List V} (I:Inv X pins σ H s) (h:SqX X.K c H a xs) (h':SqX X.K c H a ys):xs=ys:=by
 cases c with
 | true=>exact I.list_inj h h'
 | false=>exact I.tuple_inj h h'
theorem Qb {P:Program} {w:World} {K:PySem.W.Frag} {elts:List Expr} {x1} {tpos:Pos} (c d:Bool) (a b z TI TO i1 i2:Addr) (D:ZAp z TI TO i1 i2 a b) :
   Turn P w K (.Tuple elts x1 tpos) (Itz K c d a b) [z,TI,TO,i1,i2] z (fun i h=>IsZip h z TI TO .none/\IsPair h TI (.ref i1) (.ref i2)/\(∃ u v,IsPair h TO u v)/\zAt a c i1 i h/\zAt b d i2 i h) where
 mem:=by simp
 obj:=fun i h t e he=>by
   obtain ⟨t1,t2,⟨u,v,t3⟩,t4,t5⟩:=t;simp only [List.mem_cons,List.mem_nil_iff,or_false] at he;rcases he with rfl|rfl|rfl|rfl|rfl
   . exact ⟨_,t1,fun v z=>by cases z⟩
   . exact ⟨_,t2,fun v z=>by cases z⟩
   . exact ⟨_,t3,fun v z=>by cases z⟩
   . exact (eu a c P w).obj _ _ _ t4
   . exact (eu b d P w).obj _ _ _ t5
 keep:=fun i h h' t k=>by
   obtain ⟨t1,t2,⟨u,v,t3⟩,t4,t5⟩:=t;exact ⟨k z (by simp) _ t1,k TI (by simp) _ t2,⟨u,v,k TO (by simp) _ t3⟩,(eu a c P w).atK _ _ _ _ t4 fun o e=>k i1 (by simp) o e,(eu b d P w).atK _ _ _ _ t5 fun o e=>k i2 (by simp) o e⟩
 item:=fun X e1 e2 e3 hc i pins s σ H E I f t g=>by
   subst e1 e2 e3;obtain ⟨t1,t2,⟨u,v,t3⟩,t4,t5⟩:=t;obtain ⟨xs,ys,x,y,s1,s2,hx,hy⟩:=g;obtain ⟨us,r1,q1⟩:=I.sqX s1;obtain ⟨vs,r2,q2⟩:=I.sqX s2;obtain ⟨xu,hxu,rx⟩:=r1.get hx;obtain ⟨yu,hyu,ry⟩:=r2.get hy;have hT:s.TypeIs (.ref z) "zip":=⟨_,t1,rfl⟩;unfold pyNext;refine wpAny_bind (wpAny_attempt (wpAny_callSpecial?_slot (name:=Str.ofString "__next__") hT F.slot_zip_next (wpAny_call_entry F.slot_zip_next hT F.entry_zip_next
     (FK (eu a c _ _) (eu b d _ _) D t1 t2 t3 t4 t5 q1 q2 (x:=xu) (y:=yu) (by simpa using hxu) (by simpa using hyu) fun h' w1 w2 w3 w4 w5 w6 w7=>wpAny_pure ?_) (F.args_zip_next_1 _))))
   refine ⟨_,rfl,wpAny_letOwnedTupleGo_zip w1 fun h2 n1 n2=>?_⟩;have fz:∀ q∈[z,TI,TO,i1,i2],lA X pins H q:=f;have lt0:s.heap.objs.size≠z:=Nat.ne_of_gt (Heap.lt_size t1);have new:IsPair h2 s.heap.objs.size xu yu:=n2.extBut _ _ lt0 w5;have kp:∀ q o,q ∉ [z,TI,TO,i1,i2]->s.heap.get? q=some o->h2.get? q=some o:=fun q o hq e=>by
     simp only [List.mem_cons,List.mem_nil_iff,or_false,not_or] at hq;exact n2.extBut _ _ hq.1 (w7 q o hq.1 hq.2.2.1 hq.2.2.2.1 hq.2.2.2.2 e)
   have kTI:h2.get? TI=some _:=n2.extBut _ _ D.a1 (w7 TI _ D.a1 D.a5 D.a6 D.a7 t2);have Hn:∀ q u,H q=some u->q ∉ [z,TI,TO,i1,i2]:=fun q u e hq=>by rw [(fz q hq).1] at e;cases e
   have I2:Inv X pins σ H { s with heap:=h2 }:=by
     refine I.step (g':=s.gens) (d':=s.drawn) (t':=s.toks) (ch:=[z,TI,TO,i1,i2]) (fun q hq=>⟨(fz q hq).2.2.2.1,(fz q hq).2.1,(fz q hq).2.2.2.2.1,(fz q hq).2.2.2.2.2⟩) (fun q o _ _ hq e _=>kp q o hq e) (fun q o _ _ hq e _=>⟨o.slots,kp q o hq e⟩) (fun _ _ _ _ n=>n)
       (fun q o hq e=>⟨o,kp q o hq e⟩) (fun _ _ e=>e) (fun _ _ _ e=>e) (fun q ps e=>⟨#[],by rw [e];simp⟩) (fun m hm=>?_) (fun q u e=>?_) I.bare
     . obtain ⟨o,es,ep,ho,r⟩:=hm;exact ⟨o,es,ep,kp _ o (fun hq=>(fz _ hq).2.1 rfl) ho,r⟩
     . refine (I.hok q u e).stay (fun q' v hq' e'=>kp q' v ?_ e') (fun _ e'=>e') fun _ _ e'=>e';rcases hq' with rfl|hq'
       . exact Hn _ u e
       . exact Hn _ _ hq'
   have nH:H s.heap.objs.size=none:=I.fresh;have I3:Inv X pins σ (upd H s.heap.objs.size (.tup [x,y])) { s with heap:=h2 }:=by
     refine ⟨I2.ok,I2.os,I2.bare,?_,I2.loc,I2.cell,?_,fun n c e=>?_,fun p hp=>?_,fun q u e=>?_,I2.len⟩
     . refine ⟨I2.base.keep,I2.base.slot,fun q o e n hx=>?_,I2.base.there,fun q xs e=>?_,fun q o u e=>?_,fun q ps e=>?_⟩
       . have lt:q<X.s₀.heap.objs.size:=Heap.lt_size e;rw [aq (Nat.ne_of_lt (Nat.lt_of_lt_of_le lt I.sz))];exact I2.base.free q o e n hx
       . have e':=I2.base.tups q xs e;rw [aq (fun z=>by rw [z,nH] at e';cases e')];exact e'
       . have e':=I2.base.frzs q o u e;rw [aq (fun z=>by rw [z,nH] at e';cases e')];exact e'
       . obtain ⟨more,e'⟩:=I2.base.tbls q ps e;exact ⟨more,by rw [aq (fun z=>by rw [z,nH] at e';cases e')];exact e'⟩
     . rw [aq (Nat.ne_of_lt I.lt)];exact I2.free
     . obtain ⟨vv,o,ho,_⟩:=I.cell n c e;rw [aq (Nat.ne_of_lt (Heap.lt_size ho))];exact I2.freeC n c e
     . obtain ⟨k1,k2,k3⟩:=I.pin p hp;rw [aq (Nat.ne_of_lt (Heap.lt_size k1))];exact I2.pin p hp
     . by_cases hq:q=s.heap.objs.size
       . subst hq;rw [ah] at e;cases e;exact ⟨by show 2<=sizeLine;decide,[xu,yu],.cons rx (.cons ry .nil),_,new,rfl,_,rfl⟩
       . rw [aq hq] at e;refine (I2.hok q u e).stay (fun _ _ _ e'=>e') (fun q' e'=>?_) fun q' xs e'=>?_
         . rw [aq (fun z=>by rw [z,nH] at e';cases e')];exact e'
         . rw [aq (fun z=>by rw [z,nH] at e';cases e')];exact e'
   refine ⟨.ref s.heap.objs.size,_,I3,rfl,⟨_,x,y,nH,rfl,rfl,fun xs' q=>?_,fun ys' q=>?_⟩,⟨n1,kTI,⟨_,_,n2.extBut _ _ D.a2 w2⟩,(eu a c X.prog X.w).atK _ _ _ _ w3 fun o e=>n2.extBut _ _ D.a3 e,(eu b d X.prog X.w).atK _ _ _ _ w4 fun o e=>n2.extBut _ _ D.a4 e⟩,fun q hq=>?_⟩
   . rw [<- I.sqX_inj s1 q];exact hx
   . rw [<- I.sqX_inj s2 q];exact hy
   . have hlt:q<s.heap.objs.size:=by
       simp only [List.mem_cons,List.mem_nil_iff,or_false] at hq;rcases hq with rfl|rfl|rfl|rfl|rfl
       . exact Heap.lt_size t1
       . exact Heap.lt_size t2
       . exact Heap.lt_size t3
       . exact let ⟨o,e,_⟩:=(eu a c X.prog X.w).obj _ _ _ t4;Heap.lt_size e
       . exact let ⟨o,e,_⟩:=(eu b d X.prog X.w).obj _ _ _ t5;Heap.lt_size e
     rw [aq (Nat.ne_of_lt hlt)];exact (fz q hq).1
 done:=fun X e1 e2 e3 hc i pins s σ H E I f t g=>by
   subst e1 e2 e3;obtain ⟨t1,t2,⟨u,v,t3⟩,t4,t5⟩:=t;obtain ⟨xs,ys,s1,s2,hend⟩:=g;obtain ⟨us,r1,q1⟩:=I.sqX s1;obtain ⟨vs,r2,q2⟩:=I.sqX s2;have fz:∀ q∈[z,TI,TO,i1,i2],lA X pins H q:=f;have hh:X.A.handled=none:=I.ok.hd hc;have hT:s.TypeIs (.ref z) "zip":=⟨_,t1,rfl⟩;have hend':us.toArray[i]?=none\/vs.toArray[i]?=none:=by
     rcases hend with e|e
     . exact .inl (by have:=r1.length;simp;omega)
     . exact .inr (by have:=r2.length;simp;omega)
   unfold pyNext;refine wpAny_bind (wpAny_attempt (wpAny_callSpecial?_slot (name:=Str.ofString "__next__") hT F.slot_zip_next (wpAny_call_entry F.slot_zip_next hT F.entry_zip_next
     (Hk (eu a c _ _) (eu b d _ _) hh D t1 t2 t3 t4 t5 q1 q2 hend' fun h' e hk he=>?_) (F.args_zip_next_1 _))))
   obtain ⟨o,ho,hcl⟩:=he;refine wpAny_bind (wpAny_isInstance (T:="StopIteration") (b:=true) ⟨o,ho,hcl⟩ isSubtype_stop (wpAny_pure ⟨rfl,?_⟩));have kp:∀ q o,q ∉ [z,TI,TO,i1,i2]->s.heap.get? q=some o->h'.get? q=some o:=fun q o hq e=>by
     simp only [List.mem_cons,List.mem_nil_iff,or_false,not_or] at hq;exact hk q o hq.1 hq.2.2.1 hq.2.2.2.1 hq.2.2.2.2 e
   have Hn:∀ q u,H q=some u->q ∉ [z,TI,TO,i1,i2]:=fun q u e hq=>by rw [(fz q hq).1] at e;cases e
   refine I.step (g':=s.gens) (d':=s.drawn) (t':=s.toks) (ch:=[z,TI,TO,i1,i2]) (fun q hq=>⟨(fz q hq).2.2.2.1,(fz q hq).2.1,(fz q hq).2.2.2.2.1,(fz q hq).2.2.2.2.2⟩) (fun q o _ _ hq e _=>kp q o hq e) (fun q o _ _ hq e _=>⟨o.slots,kp q o hq e⟩) (fun _ _ _ _ n=>n)
     (fun q o hq e=>⟨o,kp q o hq e⟩) (fun _ _ e=>e) (fun _ _ _ e=>e) (fun q ps e=>⟨#[],by rw [e];simp⟩) (fun m hm=>?_) (fun q u e=>?_) I.bare
   . obtain ⟨o,es,ep,ho,r⟩:=hm;exact ⟨o,es,ep,kp _ o (fun hq=>(fz _ hq).2.1 rfl) ho,r⟩
   . refine (I.hok q u e).stay (fun q' v hq' e'=>kp q' v ?_ e') (fun _ e'=>e') fun _ _ e'=>e';rcases hq' with rfl|hq'
     . exact Hn _ u e
     . exact Hn _ _ hq'
 self:=fun A i s Q E t q=>wpAny_pyIter_zip t.1 q
end L2
set_option Elab.async false
set_option linter.all false
set_option maxRecDepth 100000
namespace L2
open PySem PySem.Spec PyProof.Rows
section
variable {X:Cx} {pins:List (Addr × Obj)} {σ:St} {H H2:Hp} {s s2:Shared} {a:Addr} {o:HO}
end
section
variable {P:Program} {w:World} {A:Around} {E:Value->Shared->Prop} {s:Shared}
end
end L2
set_option Elab.async false
set_option linter.all false
set_option maxRecDepth 100000
namespace L2
open PySem PySem.Spec PyProof.Rows
section
variable {P:Program} {w:World} {A:Around} {E:Value->Shared->Prop} {s:Shared} {R:Result->Shared->Prop}
end
section
variable {X:Cx} {e:Expr} {te:TE} {p1 p2 pos pos2:Pos}
end
end L2
set_option Elab.async false
set_option linter.all false
set_option maxRecDepth 100000
namespace L2
open PySem PySem.Spec PyProof.Rows
theorem eV {a b:Nat} (h:a<b\/b<a):a≠b:=by omega
theorem Tz (n a b:Nat) (h1:a<n) (h2:b<n):ZAp (n+4) (n+2) (n+3) n (n+1) a b :=
 ⟨eV (by omega),eV (by omega),eV (by omega),eV (by omega),eV (by omega),eV (by omega),eV (by omega),eV (by omega),eV (by omega),eV (by omega),⟨eV (by omega),eV (by omega),eV (by omega),eV (by omega)⟩,⟨eV (by omega),eV (by omega),eV (by omega),eV (by omega)⟩⟩
section
variable {X:Cx}
def Rp (K:PySem.W.Frag) (c d:Bool) (ta:TA):TI:=fun σ H R=>ta σ H fun vs H1=>∃ a b,vs=[.ref a,.ref b]/\(∃ xs,SqX K c H1 a xs)/\(∃ ys,SqX K d H1 b ys)/\R (Itz K c d a b) H1
theorem TY {elts:List Expr} {x1} {tpos:Pos} {ea eb:Expr} {ta:TA} {p pos:Pos} (c d:Bool) (hg:Gl X "zip") (hm:X.mg "zip"=none) (ha:PA X [ea,eb] ta)
   (hs:starEach [ea,eb] X.env=[(false,eval ea X.env),(false,eval eb X.env)]:=by rfl) (hs2:starEach [eb] X.env=[(false,eval eb X.env)]:=by rfl) :
   PI X (.Tuple elts x1 tpos) (.Call (.Name "zip" p) [ea,eb] [] pos) (Rp X.K c d ta):=by
 intro pins s σ H R I h;refine Call_ (qv I hg hm boot_zip (PyProof.Rows.callWith_type1 (mS (ha pos pins s σ H _ I h) fun us s1 vs H1 I1 r1 q1=>?_) (by rw [hs,hs2]) (by rw [hs2];rfl)));obtain ⟨a,b,e,⟨xs,sa⟩,⟨ys,sb⟩,q⟩:=q1;subst e;obtain ⟨u,v,rfl,ru,rv⟩:=EJ r1;cases ru;cases rv;obtain ⟨us,r1,q1⟩:=I1.sqX sa;obtain ⟨vs,r2,q2⟩:=I1.sqX sb;obtain ⟨oa,hoa⟩:=o0 a c _ _ q1;obtain ⟨ob,hob⟩:=o0 b d _ _ q2;have la:=Heap.lt_size hoa;have lb:=Heap.lt_size hob;refine QK (eu a c) (eu b d) (o0 b d) q1 q2 (fun h' w1 w2 w3 w4 w5 w6=>?_) (xD a c) (xD b d);refine wpAny_pyIter_zip w1 ?_;have D:=Tz s1.heap.objs.size a b la lb;refine ⟨_,[s1.heap.objs.size+4,s1.heap.objs.size+2,s1.heap.objs.size+3,s1.heap.objs.size,s1.heap.objs.size+1],_,_,H1,rfl,I1.kept (t':=s1.toks) w6,Qb c d a b _ _ _ _ _ D,⟨w1,w2,⟨_,_,w3⟩,w4,w5⟩,fun q hq=>?_,q⟩;have hle:s1.heap.objs.size<=q:=by
   simp only [List.mem_cons,List.mem_nil_iff,or_false] at hq;rcases hq with rfl|rfl|rfl|rfl|rfl
   . exact Nat.le_add_right _ 4
   . exact Nat.le_add_right _ 2
   . exact Nat.le_add_right _ 3
   . exact Nat.le_refl _
   . exact Nat.le_add_right _ 1
 exact I1.fpOk hle (I1.hok.fresh hle)
end
end L2
set_option linter.all false
namespace Pb
structure Road where
 a:Int
 b:Int
 t:Int
 u:Int
 deriving DecidableEq
def OM (m:Int) (rs:List Road):Prop:=∀ S:Int->Prop,S 0->(∀ r∈rs,(S r.a↔S r.b))->∀ v,0<=v->v<m->S v
structure RoadOk (m:Int) (r:Road):Prop where
 a0:0<=r.a
 a1:r.a<m
 b0:0<=r.b
 b1:r.b<m
 ne:r.a≠r.b
 t0:2<=r.t
 t1:r.t<=1000000
 u0:2<=r.u
 u1:r.u<=1000000
structure Good (m:Int) (rs:List Road):Prop where
 m1:1<=m
 m24:m<=24
 len:(rs.length:Int)=m - 1
 ok:∀ r∈rs,RoadOk m r
 jn:OM m rs
theorem mG {α:Type} [DecidableEq α]:∀ {l l':List α},l.Nodup->(∀ x∈l,x∈l')->l.length<=l'.length
 | [],_,_,_=>Nat.zero_le _
 | x::r,l',hn,hs=>by
   obtain ⟨h1,h2⟩:=List.nodup_cons.mp hn;have hx:x∈l':=hs x List.mem_cons_self;have:r.length<=(l'.erase x).length:=mG h2 fun y hy=>(List.mem_erase_of_ne (fun (e:y=x)=>h1 (by rw [<- e];exact hy))).mpr (hs y (List.mem_cons_of_mem _ hy));rw [List.length_erase_of_mem hx] at this;have hp:0<l'.length:=List.length_pos_of_mem hx;rw [List.length_cons];omega
def below (n:Nat):List Int:=(List.range n).map fun (k:Nat)=>(k:Int)
theorem eB {n:Nat} {v:Int}:v∈below n↔0<=v/\v<n:=by
 unfold below;rw [List.mem_map]
 constructor
 . rintro ⟨k,hk,rfl⟩;have:=List.mem_range.mp hk;omega
 . rintro ⟨h0,h1⟩;exact ⟨v.toNat,List.mem_range.mpr (by omega),by omega⟩
theorem lC (n:Nat):(below n).length=n:=by simp [below]
theorem jZ (n:Nat):(below n).Nodup:=by
 unfold below;refine List.Pairwise.map _ (fun a b h=>?_) (List.nodup_range (n:=n));intro e;exact h (by omega)
theorem qW {m:Int} {l:List Int} (hm:0<=m) (hn:l.Nodup) (h:∀ x∈l,0<=x/\x<m):(l.length:Int)<=m:=by
 have:=mG (l':=below m.toNat) hn fun x hx=>eB.mpr ⟨(h x hx).1,by have:=(h x hx).2;omega⟩;rw [lC] at this;omega
theorem Pe {m:Int} {l:List Int} (hm:0<=m) (h:∀ v,0<=v->v<m->v∈l):m<=(l.length:Int):=by
 have:=mG (l:=below m.toNat) (l':=l) (jZ _) fun x hx=>by
   obtain ⟨h0,h1⟩:=eB.mp hx;exact h x h0 (by omega)
 rw [lC] at this;omega
def qT (p:Int) (r:Road):List Int:=(if r.a=p then [r.b] else [])++(if r.b=p then [r.a] else [])
def cy (rs:List Road) (p:Int):List Int:=rs.flatMap (qT p)
theorem pP {rs:List Road} {p e:Int}:e∈cy rs p↔∃ r∈rs,(r.a=p/\r.b=e)\/(r.b=p/\r.a=e):=by
 unfold cy qT;rw [List.mem_flatMap]
 constructor
 . rintro ⟨r,hr,h⟩;refine ⟨r,hr,?_⟩;rcases List.mem_append.mp h with h|h
   . by_cases c:r.a=p
     . rw [if_pos c] at h;exact .inl ⟨c,(List.mem_singleton.mp h).symm⟩
     . rw [if_neg c] at h;cases h
   . by_cases c:r.b=p
     . rw [if_pos c] at h;exact .inr ⟨c,(List.mem_singleton.mp h).symm⟩
     . rw [if_neg c] at h;cases h
 . rintro ⟨r,hr,h⟩;refine ⟨r,hr,List.mem_append.mpr ?_⟩;rcases h with ⟨h1,h2⟩|⟨h1,h2⟩
   . exact .inl (by rw [if_pos h1,h2];exact List.mem_singleton.mpr rfl)
   . exact .inr (by rw [if_pos h1,h2];exact List.mem_singleton.mpr rfl)
theorem Gw (rs:List Road) (p:Int):(cy rs p).length<=2*rs.length:=by
 unfold cy
 induction rs with
 | nil=>simp
 | cons r rs ih =>
   rw [List.flatMap_cons,List.length_append,List.length_cons];have:(qT p r).length<=2:=by
     unfold qT;rw [List.length_append];by_cases c:r.a=p <;> by_cases d:r.b=p <;> simp [c,d]
   omega
theorem qN (rs:List Road) (r:Road) (p:Int):cy (rs++[r]) p=cy rs p++qT p r:=by
 unfold cy;rw [List.flatMap_append];simp
def A3 (c:List Int × List Int) (e:Int):List Int × List Int:=if e∈c.1 then c else (c.1++[e],c.2++[e])
structure JInv (m:Int) (rs:List Road) (ks ws:List Int):Prop where
 nd:ks.Nodup
 zero:0∈ks
 rng:∀ k∈ks,0<=k/\k<m
 sub:∀ w∈ws,w∈ks
 cl:∀ k∈ks,k ∉ ws->∀ e∈cy rs k,e∈ks
 wl:ws.length<=ks.length
theorem MB {l:List Int} {e:Int} (h:l.Nodup) (he:e ∉ l):(l++[e]).Nodup:=by
 rw [List.nodup_append];refine ⟨h,by simp,fun a ha b hb=>?_⟩;rw [List.mem_singleton.mp hb];exact fun z=>he (z ▸ ha)
structure JMid (m:Int) (rs:List Road) (p:Int) (es ks ws ks0:List Int) (n0:Nat):Prop where
 nd:ks.Nodup
 zero:0∈ks
 rng:∀ k∈ks,0<=k/\k<m
 sub:∀ w∈ws,w∈ks
 cl:∀ k∈ks,k ∉ ws->k=p\/∀ e∈cy rs k,e∈ks
 seen:∀ e∈es,e∈ks
 pin:p∈ks
 mu:ks.length+n0=ks0.length+ws.length
 up:ks0.length<=ks.length
 wl:ws.length<=ks.length
theorem JMid.start {m:Int} {rs:List Road} {ks ws:List Int} {p:Int} (h:JInv m rs ks (ws++[p])):JMid m rs p [] ks ws ks ws.length where
 nd:=h.nd
 zero:=h.zero
 rng:=h.rng
 sub:=fun w hw=>h.sub w (List.mem_append_left _ hw)
 cl:=fun k hk hw=>by
   by_cases e:k=p
   . exact .inl e
   . exact .inr (h.cl k hk fun z=>by
       rcases List.mem_append.mp z with z|z
       . exact hw z
       . exact e (List.mem_singleton.mp z))
 seen:=fun e he=>by cases he
 pin:=h.sub p (List.mem_append_right _ (List.mem_singleton.mpr rfl))
 mu:=rfl
 up:=Nat.le_refl _
 wl:=by have:=h.wl;rw [List.length_append] at this;simp at this;omega
theorem JMid.step {m:Int} {rs:List Road} {p:Int} {es ks ws ks0:List Int} {n0:Nat} {e:Int} (h:JMid m rs p es ks ws ks0 n0) (h0:0<=e) (h1:e<m) :
   JMid m rs p (es++[e]) (A3 (ks,ws) e).1 (A3 (ks,ws) e).2 ks0 n0:=by
 unfold A3;by_cases c:e∈ks
 . rw [if_pos c];refine ⟨h.nd,h.zero,h.rng,h.sub,h.cl,fun x hx=>?_,h.pin,h.mu,h.up,h.wl⟩;rcases List.mem_append.mp hx with z|z
   . exact h.seen x z
   . rw [List.mem_singleton.mp z];exact c
 . rw [if_neg c];dsimp only;refine ⟨MB h.nd c,List.mem_append_left _ h.zero,fun k hk=>?_,fun w hw=>?_,fun k hk hw=>?_,fun x hx=>?_,List.mem_append_left _ h.pin,?_,by have:=h.up;simp;omega,by have:=h.wl;simp;exact this⟩
   . rcases List.mem_append.mp hk with z|z
     . exact h.rng k z
     . rw [List.mem_singleton.mp z];exact ⟨h0,h1⟩
   . rcases List.mem_append.mp hw with z|z
     . exact List.mem_append_left _ (h.sub w z)
     . exact List.mem_append_right _ z
   . rcases List.mem_append.mp hk with z|z
     . rcases h.cl k z fun y=>hw (List.mem_append_left _ y) with y|y
       . exact .inl y
       . exact .inr fun x hx=>List.mem_append_left _ (y x hx)
     . exact absurd (List.mem_append_right _ z) hw
   . rcases List.mem_append.mp hx with z|z
     . exact List.mem_append_left _ (h.seen x z)
     . exact List.mem_append_right _ z
   . have:=h.mu;simp only [List.length_append,List.length_cons,List.length_nil];omega
theorem JMid.done {m:Int} {rs:List Road} {p:Int} {ks ws ks0:List Int} {n0:Nat} (h:JMid m rs p (cy rs p) ks ws ks0 n0):JInv m rs ks ws where
 nd:=h.nd
 zero:=h.zero
 rng:=h.rng
 sub:=h.sub
 cl:=fun k hk hw=>by
   rcases h.cl k hk hw with z|z
   . rw [z];exact h.seen
   . exact z
 wl:=h.wl
theorem JInv.start {m:Int} {rs:List Road} (hm:1<=m):JInv m rs [0] [0] where
 nd:=by simp
 zero:=by simp
 rng:=fun k hk=>by rw [List.mem_singleton.mp hk];omega
 sub:=fun w hw=>hw
 cl:=fun k hk hw=>absurd hk hw
 wl:=by simp
theorem JInv.all {m:Int} {rs:List Road} {ks:List Int} (h:JInv m rs ks []) (hm:1<=m) (j:OM m rs):(ks.length:Int)=m:=by
 have up:=qW (by omega) h.nd h.rng;have:∀ v,0<=v->v<m->v∈ks:=j (fun v=>v∈ks) h.zero fun r hr=>by
   constructor
   . intro ha;exact h.cl r.a ha (by simp) r.b (pP.mpr ⟨r,hr,.inl ⟨rfl,rfl⟩⟩)
   . intro hb;exact h.cl r.b hb (by simp) r.a (pP.mpr ⟨r,hr,.inr ⟨rfl,rfl⟩⟩)
 have:=Pe (by omega) this;omega
theorem Qc {m:Int} {rs:List Road} (h:∀ r∈rs,RoadOk m r) {p e:Int} (he:e∈cy rs p):0<=e/\e<m:=by
 obtain ⟨r,hr,z⟩:=pP.mp he;have k:=h r hr;rcases z with ⟨_,rfl⟩|⟨_,rfl⟩
 . exact ⟨k.b0,k.b1⟩
 . exact ⟨k.a0,k.a1⟩
structure Row where
 k:Int
 un:Int
 t:Int
 u:Int
 sw:Int
 sp:Int
structure RowOk (r:Row):Prop where
 u0:0<=r.un
 u1:r.un<r.k
 t0:2<=r.t
 t1:r.t<=1000000
 v0:2<=r.u
 v1:r.u<=1000000
 s0:0<=r.sp
 s1:r.sp<r.k
structure Rows (n:Nat) (rows:List Row):Prop where
 len:rows.length=n
 ok:∀ (i:Nat) (r:Row),rows[i]?=some r->r.k=(i:Int)+1/\RowOk r
structure Labels (n:Nat) (ls:List Int):Prop where
 len:ls.length=n
 nd:ls.Nodup
 all:∀ v:Int,0<=v->v<n->v∈ls
 rng:∀ v∈ls,0<=v/\v<n
theorem AZ {α:Type} {l:List α} {k:Nat} {x y:α}:y∈l.take k++x::l.drop k↔y=x\/y∈l:=by
 rw [List.mem_append,List.mem_cons]
 constructor
 . rintro (h|h|h)
   . exact .inr (List.mem_of_mem_take h)
   . exact .inl h
   . exact .inr (List.mem_of_mem_drop h)
 . rintro (h|h)
   . exact .inr (.inl h)
   . rw [<- List.take_append_drop k l] at h;rcases List.mem_append.mp h with z|z
     . exact .inl z
     . exact .inr (.inr z)
def lX (ls:List Int) (r:Row):Road:=if r.sw=1 then ⟨ls.getD r.un.toNat 0,ls.getD r.k.toNat 0,r.t,r.u⟩ else ⟨ls.getD r.k.toNat 0,ls.getD r.un.toNat 0,r.t,r.u⟩
structure Put (ls:List Int) (rows:List Row) (rs:List Road):Prop where
 len:rs.length=rows.length
 of:∀ r∈rs,∃ w∈rows,r=lX ls w
 to:∀ w∈rows,lX ls w∈rs
theorem Put.nil (ls:List Int):Put ls [] []:=⟨rfl,fun r h=>(by cases h),fun r h=>(by cases h)⟩
theorem Put.step {ls:List Int} {rows:List Row} {rs:List Road} (h:Put ls rows rs) (w:Row) (k:Nat):Put ls (rows++[w]) (rs.take k++lX ls w::rs.drop k) where
 len:=by
   rw [List.length_append,List.length_cons,List.length_take,List.length_drop,List.length_append,h.len];simp;omega
 of:=fun r hr=>by
   rcases AZ.mp hr with z|z
   . exact ⟨w,by simp,z⟩
   . obtain ⟨w',hw,e⟩:=h.of r z;exact ⟨w',List.mem_append_left _ hw,e⟩
 to:=fun w' hw=>by
   rw [AZ];rcases List.mem_append.mp hw with z|z
   . exact .inr (h.to w' z)
   . exact .inl (by rw [List.mem_singleton.mp z])
theorem y7 {ls:List Int} {n:Nat} (h:Labels n ls) {i:Nat} (hi:i<n):ls[i]?=some (ls.getD i 0):=by
 have:i<ls.length:=by rw [h.len];exact hi
 simp [List.getD,List.getElem?_eq_getElem this]
theorem GB {ls:List Int} {n:Nat} (h:Labels n ls) {i:Nat} (hi:i<n):ls.getD i 0∈ls:=List.mem_of_getElem? (y7 h hi)
theorem Ph {ls:List Int} {n:Nat} (h:Labels n ls) {i j:Nat} (hi:i<n) (hj:j<n) (e:ls.getD i 0=ls.getD j 0):i=j:=by
 have h1:i<ls.length:=by rw [h.len];exact hi
 have h2:j<ls.length:=by rw [h.len];exact hj
 have e1:=y7 h hi;have e2:=y7 h hj;rw [e] at e1;have e3:ls[i]'h1=ls[j]'h2:=by
   rw [List.getElem?_eq_getElem h1] at e1;rw [List.getElem?_eq_getElem h2] at e2;exact Option.some.inj (e1.trans e2.symm)
 have nd:=List.pairwise_iff_getElem.mp h.nd;rcases Nat.lt_trichotomy i j with z|z|z
 . exact absurd e3 (nd i j h1 h2 z)
 . exact z
 . exact absurd e3.symm (nd j i h2 h1 z)
theorem Sm {n:Nat} {ls:List Int} {rows:List Row} {rs:List Road} (h1:1<=n) (h24:n<=24) (L:Labels n ls) (W:Rows (n - 1) rows) (P:Put ls rows rs):Good n rs where
 m1:=by omega
 m24:=by omega
 len:=by rw [P.len,W.len];omega
 ok:=fun r hr=>by
   obtain ⟨w,hw,rfl⟩:=P.of r hr;obtain ⟨i,hi⟩:=List.getElem?_of_mem hw;obtain ⟨ek,ok⟩:=W.ok i w hi;have hil:i<rows.length:=(List.getElem?_eq_some_iff.mp hi).1;rw [W.len] at hil;have hk:w.k.toNat<n:=by omega
   have hu:w.un.toNat<n:=by have:=ok.u0;have:=ok.u1;omega
   have r1:=L.rng _ (GB L hk);have r2:=L.rng _ (GB L hu);have ne:ls.getD w.k.toNat 0≠ls.getD w.un.toNat 0:=fun e=>by
     have:=Ph L hk hu e;have:=ok.u0;have:=ok.u1;omega
   unfold lX;by_cases c:w.sw=1
   . rw [if_pos c];exact ⟨r2.1,r2.2,r1.1,r1.2,ne.symm,ok.t0,ok.t1,ok.v0,ok.v1⟩
   . rw [if_neg c];exact ⟨r1.1,r1.2,r2.1,r2.2,ne,ok.t0,ok.t1,ok.v0,ok.v1⟩
 jn:=by
   intro S s0 hS;have key:∀ i:Nat,i<n->(S (ls.getD i 0)↔S (ls.getD 0 0)):=by
     intro i
     induction i using Nat.strongRecOn with
     | ind i ih =>
       intro hi;by_cases z:i=0
       . rw [z]
       . have hil:i - 1<rows.length:=(by rw [W.len];omega);obtain ⟨ek,ok⟩:=W.ok (i - 1) rows[i - 1] (List.getElem?_eq_getElem hil);have hm:=P.to rows[i - 1] (List.getElem_mem hil);have hr:=hS _ hm;have hk:(rows[i - 1]).k.toNat=i:=(by omega);have hu:(rows[i - 1]).un.toNat<i:=(by have:=ok.u0;have:=ok.u1;omega);have hh:=ih _ hu (by omega);unfold lX at hr;rw [hk] at hr;by_cases c:(rows[i - 1]).sw=1
         . rw [if_pos c] at hr;exact hr.symm.trans hh
         . rw [if_neg c] at hr;exact hr.trans hh
   have at_:∀ v,0<=v->v<(n:Int)->∃ i,i<n/\ls.getD i 0=v:=fun v h0 h1=>by
     obtain ⟨i,hi⟩:=List.getElem?_of_mem (L.all v h0 h1);have hil:i<n:=(by have:=(List.getElem?_eq_some_iff.mp hi).1;rw [L.len] at this;exact this);refine ⟨i,hil,?_⟩;have:=y7 L hil;rw [hi] at this;exact (Option.some.inj this).symm
   intro v h0 hv;obtain ⟨i,hi,rfl⟩:=at_ v h0 hv;obtain ⟨j,hj,ej⟩:=at_ 0 (by omega) (by omega);refine (key i hi).mpr ((key j hj).mp ?_);rw [ej];exact s0
end Pb
set_option linter.all false
namespace Pb
def Adj (rs:List Road) (a b:Int):Prop:=∃ x∈rs,(x.a=a/\x.b=b)\/(x.b=a/\x.a=b)
theorem Adj.symm {rs:List Road} {a b:Int} (h:Adj rs a b):Adj rs b a:=by
 obtain ⟨x,hx,h⟩:=h;rcases h with ⟨h1,h2⟩|⟨h1,h2⟩
 . exact ⟨x,hx,.inr ⟨h2,h1⟩⟩
 . exact ⟨x,hx,.inl ⟨h2,h1⟩⟩
theorem FO {rs:List Road} {a b:Int}:b∈cy rs a↔Adj rs a b:=pP
theorem Good.adj {m:Int} {rs:List Road} (g:Good m rs) {a b:Int} (h:Adj rs a b):(0<=a/\a<m)/\(0<=b/\b<m)/\a≠b:=by
 obtain ⟨x,hx,h⟩:=h;have k:=g.ok x hx;rcases h with ⟨h1,h2⟩|⟨h1,h2⟩
 . subst h1 h2;exact ⟨⟨k.a0,k.a1⟩,⟨k.b0,k.b1⟩,k.ne⟩
 . subst h1 h2;exact ⟨⟨k.b0,k.b1⟩,⟨k.a0,k.a1⟩,k.ne.symm⟩
theorem Good.from {m:Int} {rs:List Road} (g:Good m rs) {r:Int} (h0:0<=r) (h1:r<m) (S:Int->Prop) (sr:S r) (hS:∀ x∈rs,(S x.a↔S x.b)):∀ v,0<=v->v<m->S v:=by
 have key:∀ v,0<=v->v<m->(S v↔S 0):=g.jn (fun v=>S v↔S 0) Iff.rfl fun x hx=>by
   have:=hS x hx;exact ⟨fun h=>this.symm.trans h,fun h=>this.trans h⟩
 intro v a b;exact (key v a b).mpr ((key r h0 h1).mp sr)
inductive Dist (rs:List Road) (r:Int):Nat->Int->Prop
 | zero:Dist rs r 0 r
 | step {n:Nat} {u v:Int}:Dist rs r n u->Adj rs u v->Dist rs r (n+1) v
theorem Ul {P:Nat->Prop}:∀ n,P n->∃ k,P k/\∀ j,j<k->¬ P j:=by
 intro n
 induction n using Nat.strongRecOn with
 | ind n ih =>
   intro h;by_cases z:∃ j,j<n/\P j
   . obtain ⟨j,hj,hp⟩:=z;exact ih j hj hp
   . exact ⟨n,h,fun j hj hp=>z ⟨j,hj,hp⟩⟩
structure Rooted (m:Int) (rs:List Road) (r:Int) (par:Int->Int) (dep:Int->Nat):Prop where
 root:dep r=0
 up:∀ v,0<=v->v<m->v≠r->(0<=par v/\par v<m)/\Adj rs v (par v)/\dep (par v)+1=dep v
 road:∀ x∈rs,(x.a≠r/\par x.a=x.b)\/(x.b≠r/\par x.b=x.a)
 one:(rs.map fun x=>if x.a≠r/\par x.a=x.b then x.a else x.b).Nodup
theorem SY {n:Nat} {l:List Nat} (hn:l.Nodup) (hl:l.length=n) (hb:∀ x∈l,x<n):∀ i,i<n->i∈l:=by
 intro i hi;by_cases z:i∈l
 . exact z
 . have:=mG (l:=i::l) (l':=List.range n) (List.nodup_cons.mpr ⟨z,hn⟩) fun x hx=>by
     rcases List.mem_cons.mp hx with rfl|hx
     . exact List.mem_range.mpr hi
     . exact List.mem_range.mpr (hb x hx)
   rw [List.length_cons,List.length_range] at this;omega
theorem OG {m:Int} {rs:List Road} (g:Good m rs) {r:Int} (h0:0<=r) (h1:r<m):∃ par dep,Rooted m rs r par dep:=by
 classical
 have reach:∀ v,0<=v->v<m->∃ n,Dist rs r n v:=g.from h0 h1 (fun v=>∃ n,Dist rs r n v) ⟨0,.zero⟩ fun x hx=>by
   constructor
   . rintro ⟨n,d⟩;exact ⟨n+1,d.step ⟨x,hx,.inl ⟨rfl,rfl⟩⟩⟩
   . rintro ⟨n,d⟩;exact ⟨n+1,d.step ⟨x,hx,.inr ⟨rfl,rfl⟩⟩⟩
 have hd:∀ v,∃ k,(0<=v/\v<m)->Dist rs r k v/\∀ j,j<k->¬ Dist rs r j v:=fun v=>by
   by_cases z:0<=v/\v<m
   . obtain ⟨n,d⟩:=reach v z.1 z.2;obtain ⟨k,h⟩:=Ul (P:=fun k=>Dist rs r k v) n d;exact ⟨k,fun _=>h⟩
   . exact ⟨0,fun h=>absurd h z⟩
 let dep:Int->Nat:=fun v=>(hd v).choose
 have dspec:∀ v,0<=v->v<m->Dist rs r (dep v) v/\∀ j,j<dep v->¬ Dist rs r j v:=fun v a b=>(hd v).choose_spec ⟨a,b⟩;have dr:dep r=0:=by
   have:=(dspec r h0 h1).2 0;by_cases z:dep r=0
   . exact z
   . exact absurd Dist.zero (this (by omega))
 have hp:∀ v,∃ u,(0<=v/\v<m/\v≠r)->Adj rs v u/\dep u+1=dep v:=fun v=>by
   by_cases z:0<=v/\v<m/\v≠r
   . obtain ⟨a,b,c⟩:=z;obtain ⟨d,dm⟩:=dspec v a b;generalize hk:dep v=k at d dm;cases d with
     | zero=>exact absurd rfl c
     | @step n u _ d e =>
       refine ⟨u,fun _=>⟨e.symm,?_⟩⟩;obtain ⟨⟨u0,u1⟩,_⟩:=g.adj e;have l1:dep u<=n:=by
         by_cases w:dep u<=n
         . exact w
         . exact absurd d ((dspec u u0 u1).2 n (by omega))
       have l2:¬ dep u<n:=fun w=>dm (dep u+1) (by omega) ((dspec u u0 u1).1.step e);omega
   . exact ⟨0,fun h=>absurd h z⟩
 let par:Int->Int:=fun v=>(hp v).choose
 have pspec:∀ v,0<=v->v<m->v≠r->Adj rs v (par v)/\dep (par v)+1=dep v:=fun v a b c=>(hp v).choose_spec ⟨a,b,c⟩;have hi:∀ v,∃ i:Nat,(0<=v/\v<m/\v≠r)->∃ x,rs[i]?=some x/\((x.a=v/\x.b=par v)\/(x.b=v/\x.a=par v)):=fun v=>by
   by_cases z:0<=v/\v<m/\v≠r
   . obtain ⟨x,hx,h⟩:=(pspec v z.1 z.2.1 z.2.2).1;obtain ⟨i,e⟩:=List.getElem?_of_mem hx;exact ⟨i,fun _=>⟨x,e,h⟩⟩
   . exact ⟨0,fun h=>absurd h z⟩
 let ix:Int->Nat:=fun v=>(hi v).choose
 have ispec:∀ v,0<=v->v<m->v≠r->∃ x,rs[ix v]?=some x/\((x.a=v/\x.b=par v)\/(x.b=v/\x.a=par v)):=fun v a b c=>(hi v).choose_spec ⟨a,b,c⟩;have inj:∀ v u,0<=v->v<m->v≠r->0<=u->u<m->u≠r->ix v=ix u->v=u:=by
   intro v u a b c a' b' c' e;obtain ⟨x,hx,h⟩:=ispec v a b c;obtain ⟨y,hy,h'⟩:=ispec u a' b' c';rw [e,hy] at hx;cases hx;have d1:=(pspec v a b c).2;have d2:=(pspec u a' b' c').2;rcases h with ⟨p,q⟩|⟨p,q⟩ <;> rcases h' with ⟨p',q'⟩|⟨p',q'⟩
   . exact p.symm.trans p'
   . exfalso
     have e1:v=par u:=p.symm.trans q';have e2:u=par v:=p'.symm.trans q;rw [<- e1] at d2;rw [<- e2] at d1;omega
   . exfalso
     have e1:v=par u:=p.symm.trans q';have e2:u=par v:=p'.symm.trans q;rw [<- e1] at d2;rw [<- e2] at d1;omega
   . exact p.symm.trans p'
 let vs:List Int:=(below m.toNat).filter fun v=>decide (v≠r)
 have mv:∀ v,v∈vs↔(0<=v/\v<m/\v≠r):=fun v=>by
   rw [List.mem_filter,eB,decide_eq_true_eq]
   constructor
   . rintro ⟨⟨a,b⟩,c⟩;exact ⟨a,by omega,c⟩
   . rintro ⟨a,b,c⟩;exact ⟨⟨a,by omega⟩,c⟩
 have nv:vs.Nodup:=(jZ _).filter _;have lv:vs.length=rs.length:=by
   have e1:(r::vs).length<=(below m.toNat).length:=mG (List.nodup_cons.mpr ⟨fun h=>((mv r).mp h).2.2 rfl,nv⟩) fun x hx=>by
     rcases List.mem_cons.mp hx with rfl|hx
     . exact eB.mpr ⟨h0,by omega⟩
     . have:=(mv x).mp hx;exact eB.mpr ⟨this.1,by omega⟩
   have e2:(below m.toNat).length<=(r::vs).length:=mG (jZ _) fun x hx=>by
     have:=eB.mp hx;by_cases z:x=r
     . rw [z];exact List.mem_cons_self
     . exact List.mem_cons_of_mem _ ((mv x).mpr ⟨this.1,by omega,z⟩)
   rw [lC,List.length_cons] at e1 e2;have:=g.len;have:=g.m1;omega
 have il:(vs.map ix).Nodup:=by
   have:∀ (l:List Int),l.Nodup->(∀ v∈l,0<=v/\v<m/\v≠r)->(l.map ix).Nodup:=by
     intro l
     induction l with
     | nil=>intro _ _;simp
     | cons v l ih =>
       intro hn hm;obtain ⟨n1,n2⟩:=List.nodup_cons.mp hn;rw [List.map_cons];refine List.nodup_cons.mpr ⟨fun z=>?_,ih n2 fun u hu=>hm u (List.mem_cons_of_mem _ hu)⟩;obtain ⟨u,hu,e⟩:=List.mem_map.mp z;obtain ⟨a,b,c⟩:=hm v List.mem_cons_self;obtain ⟨a',b',c'⟩:=hm u (List.mem_cons_of_mem _ hu);exact n1 (inj u v a' b' c' a b c e ▸ hu)
   exact this vs nv fun v hv=>(mv v).mp hv
 have ib:∀ i∈vs.map ix,i<rs.length:=fun i hi'=>by
   obtain ⟨v,hv,rfl⟩:=List.mem_map.mp hi';obtain ⟨a,b,c⟩:=(mv v).mp hv;obtain ⟨x,hx,_⟩:=ispec v a b c;exact (List.getElem?_eq_some_iff.mp hx).1
 have all:=SY il (by rw [List.length_map,lv]) ib;have back:∀ i x,rs[i]?=some x->∃ v,(0<=v/\v<m/\v≠r)/\ix v=i/\((x.a=v/\x.b=par v)\/(x.b=v/\x.a=par v)):=fun i x e=>by
   obtain ⟨v,hv,rfl⟩:=List.mem_map.mp (all i (List.getElem?_eq_some_iff.mp e).1);obtain ⟨a,b,c⟩:=(mv v).mp hv;obtain ⟨y,hy,h⟩:=ispec v a b c;rw [e] at hy;cases hy;exact ⟨v,⟨a,b,c⟩,rfl,h⟩
 have noback:∀ v,0<=v->v<m->v≠r->par v≠r->par (par v)≠v:=fun v a b c c' z=>by
   have d1:=pspec v a b c;obtain ⟨_,⟨a',b'⟩,_⟩:=g.adj d1.1;have d2:=pspec (par v) a' b' c';rw [z] at d2;omega
 have kid:∀ i x,rs[i]?=some x->∃ v,(0<=v/\v<m/\v≠r)/\ix v=i/\(if x.a≠r/\par x.a=x.b then x.a else x.b)=v:=fun i x e=>by
   obtain ⟨v,⟨a,b,c⟩,hv,h⟩:=back i x e;refine ⟨v,⟨a,b,c⟩,hv,?_⟩;rcases h with ⟨p,q⟩|⟨p,q⟩
   . rw [if_pos ⟨by rw [p];exact c,by rw [p];exact q.symm⟩];exact p
   . rw [if_neg]
     . exact p
     . rintro ⟨z1,z2⟩;rw [q] at z1 z2;exact noback v a b c z1 (z2.trans p)
 refine ⟨par,dep,dr,fun v a b c=>?_,fun x hx=>?_,?_⟩
 . obtain ⟨p,q⟩:=pspec v a b c;obtain ⟨_,w,_⟩:=g.adj p;exact ⟨w,p,q⟩
 . obtain ⟨i,e⟩:=List.getElem?_of_mem hx;obtain ⟨v,⟨a,b,c⟩,_,h⟩:=back i x e;rcases h with ⟨p,q⟩|⟨p,q⟩
   . exact .inl ⟨by rw [p];exact c,by rw [p];exact q.symm⟩
   . exact .inr ⟨by rw [p];exact c,by rw [p];exact q.symm⟩
 . refine List.pairwise_iff_getElem.mpr fun i j hi' hj' lt=>?_;rw [List.length_map] at hi' hj';rw [List.getElem_map,List.getElem_map];intro z;obtain ⟨v,_,e1,k1⟩:=kid i rs[i] (List.getElem?_eq_getElem hi');obtain ⟨u,_,e2,k2⟩:=kid j rs[j] (List.getElem?_eq_getElem hj');rw [k1,k2] at z;rw [z] at e1;omega
theorem Jp {m:Int} {rs:List Road} (g:Good m rs) {p:Int} (h0:0<=p) (h1:p<m):(cy rs p).Nodup:=by
 obtain ⟨par,dep,R⟩:=OG g h0 h1;have one:=R.one;have ok:=g.ok;have road:=R.road;clear R g
 induction rs with
 | nil=>simp [cy]
 | cons x l ih =>
   have ox:=ok x List.mem_cons_self;have ol:∀ y∈l,RoadOk m y:=fun y hy=>ok y (List.mem_cons_of_mem _ hy);rw [List.map_cons] at one;obtain ⟨n1,n2⟩:=List.nodup_cons.mp one;have il:=ih n2 ol fun y hy=>road y (List.mem_cons_of_mem _ hy);have e:cy (x::l) p=qT p x++cy l p:=by unfold cy;rw [List.flatMap_cons]
   rw [e];have kid:∀ y,RoadOk m y->((y.a≠p/\par y.a=y.b)\/(y.b≠p/\par y.b=y.a))->(y.a=p->(if y.a≠p/\par y.a=y.b then y.a else y.b)=y.b)/\(y.b=p->(if y.a≠p/\par y.a=y.b then y.a else y.b)=y.a):=fun y oy hy=>by
     constructor
     . intro z;rw [if_neg (fun w=>w.1 z)]
     . intro z;rcases hy with hy|hy
       . rw [if_pos hy]
       . exact absurd z hy.1
   have kx:=kid x ox (road x List.mem_cons_self);have inl:∀ e∈cy l p,e∈l.map fun y=>if y.a≠p/\par y.a=y.b then y.a else y.b:=fun e he=>by
     obtain ⟨y,hy,h⟩:=pP.mp he;have ky:=kid y (ol y hy) (road y (List.mem_cons_of_mem _ hy));refine List.mem_map.mpr ⟨y,hy,?_⟩;rcases h with ⟨p1,q1⟩|⟨p1,q1⟩
     . rw [ky.1 p1];exact q1
     . rw [ky.2 p1];exact q1
   unfold qT;by_cases c:x.a=p
   . have d:¬ x.b=p:=fun z=>ox.ne (c.trans z.symm);rw [if_pos c,if_neg d,List.append_nil];refine List.nodup_cons.mpr ⟨fun z=>n1 ?_,il⟩;rw [kx.1 c];exact inl _ z
   . rw [if_neg c,List.nil_append];by_cases d:x.b=p
     . rw [if_pos d];refine List.nodup_cons.mpr ⟨fun z=>n1 ?_,il⟩;rw [kx.2 d];exact inl _ z
     . rw [if_neg d];exact il
def mH (m:Int) (rs:List Road) (p:Int):List Int:=(below m.toNat).filter fun q=>decide (q∈cy rs p)
theorem Dl:∀ {l l':List Int},l.Perm l'->l.Pairwise (·<=·)->l'.Pairwise (·<=·)->l=l'
 | [],l',p,_,_=>(List.Perm.nil_eq p)
 | a::l,l',p,h,h'=>by
   cases l' with
   | nil=>exact absurd p.symm.nil_eq (by simp)
   | cons b r =>
     obtain ⟨h1,h2⟩:=List.pairwise_cons.mp h;obtain ⟨h1',h2'⟩:=List.pairwise_cons.mp h';have e:a=b:=by
       have ma:a∈b::r:=p.subset List.mem_cons_self;have mb:b∈a::l:=p.symm.subset List.mem_cons_self;rcases List.mem_cons.mp ma with z|z
       . exact z
       . rcases List.mem_cons.mp mb with w|w
         . exact w.symm
         . have:=h1 b w;have:=h1' a z;omega
     subst e;rw [Dl (List.Perm.cons_inv p) h2 h2']
theorem Fo (n:Nat):(below n).Pairwise (·<=·):=by
 unfold below;refine List.Pairwise.map _ (fun a b (h:a<b)=>?_) List.pairwise_lt_range;omega
theorem IC (m:Int) (rs:List Road) (p:Int):(mH m rs p).Pairwise (·<=·):=(Fo _).filter _
theorem JV (m:Int) (rs:List Road) (p:Int):(mH m rs p).Nodup:=(jZ _).filter _
theorem u9 {m:Int} {rs:List Road} (g:Good m rs) {p q:Int}:q∈mH m rs p↔Adj rs p q:=by
 unfold mH;rw [List.mem_filter,decide_eq_true_eq,FO,eB]
 constructor
 . exact fun h=>h.2
 . intro h;obtain ⟨_,⟨a,b⟩,_⟩:=g.adj h;exact ⟨⟨a,by omega⟩,h⟩
theorem wf:∀ {l l':List Int},l.Nodup->l'.Nodup->(∀ x,x∈l↔x∈l')->l.Perm l'
 | [],l',_,_,h=>by
   cases l' with
   | nil=>exact .nil
   | cons b r=>exact absurd ((h b).mpr List.mem_cons_self) (by simp)
 | a::l,l',n,n',h=>by
   obtain ⟨n1,n2⟩:=List.nodup_cons.mp n;have ma:a∈l':=(h a).mp List.mem_cons_self;refine List.Perm.trans (List.Perm.cons a ?_) (List.perm_cons_erase ma).symm;refine wf n2 (n'.erase a) fun x=>?_
   constructor
   . intro hx;have ne:x≠a:=fun z=>n1 (z ▸ hx);exact (List.mem_erase_of_ne ne).mpr ((h x).mp (List.mem_cons_of_mem _ hx))
   . intro hx;have:x≠a:=fun z=>by
       subst z;exact (List.Nodup.not_mem_erase n') hx
     rcases List.mem_cons.mp ((h x).mpr (List.mem_of_mem_erase hx)) with z|z
     . exact absurd z this
     . exact z
theorem SK {m:Int} {rs:List Road} (g:Good m rs) {p:Int} (h0:0<=p) (h1:p<m) {zs:List Int} (hp:zs.Perm (cy rs p)) (hs:zs.Pairwise (·<=·)):zs=mH m rs p:=by
 refine Dl (hp.trans (wf (Jp g h0 h1) (JV m rs p) fun x=>?_)) hs (IC m rs p);rw [u9 g,FO]
def dU (a b:Int) (x:Road):Option Int:=if x.a=a/\x.b=b then some x.t else if x.a=b/\x.b=a then some x.u else none
def bF (rs:List Road) (a b:Int):Option Int:=rs.findSome? (dU a b)
theorem AK {rs:List Road} {a b:Int}:(bF rs a b).isSome=true↔Adj rs a b:=by
 unfold bF;rw [List.findSome?_isSome_iff]
 constructor
 . rintro ⟨x,hx,h⟩;unfold dU at h;by_cases c:x.a=a/\x.b=b
   . exact ⟨x,hx,.inl c⟩
   . rw [if_neg c] at h;by_cases d:x.a=b/\x.b=a
     . exact ⟨x,hx,.inr ⟨d.2,d.1⟩⟩
     . rw [if_neg d] at h;cases h
 . rintro ⟨x,hx,h⟩;refine ⟨x,hx,?_⟩;unfold dU;rcases h with h|h
   . rw [if_pos h];rfl
   . by_cases c:x.a=a/\x.b=b
     . rw [if_pos c];rfl
     . rw [if_neg c,if_pos ⟨h.2,h.1⟩];rfl
def yU (x:Road) (a b:Int):Prop:=(x.a=a/\x.b=b)\/(x.b=a/\x.a=b)
theorem OE {m:Int} {rs:List Road} (g:Good m rs) {a b:Int} {i j:Nat} {x y:Road} (hi:rs[i]?=some x) (hj:rs[j]?=some y) (jx:yU x a b) (jy:yU y a b):i=j:=by
 obtain ⟨⟨a0,a1⟩,_,_⟩:=g.adj (show Adj rs a b from ⟨x,List.mem_of_getElem? hi,jx⟩);obtain ⟨par,dep,R⟩:=OG g a0 a1;have kid:∀ z∈rs,yU z a b->(if z.a≠a/\par z.a=z.b then z.a else z.b)=b:=fun z hz jz=>by
   rcases jz with ⟨p,q⟩|⟨p,q⟩
   . rw [if_neg (fun w=>w.1 p)];exact q
   . rcases R.road z hz with w|w
     . rw [if_pos w];exact q
     . exact absurd p w.1
 have li:=(List.getElem?_eq_some_iff.mp hi);have lj:=(List.getElem?_eq_some_iff.mp hj);obtain ⟨li,ei⟩:=li;obtain ⟨lj,ej⟩:=lj;have nd:=List.pairwise_iff_getElem.mp R.one;have vi:(rs.map fun z=>if z.a≠a/\par z.a=z.b then z.a else z.b)[i]'(by rw [List.length_map];exact li)=b:=by
   rw [List.getElem_map];exact kid _ (List.getElem_mem li) (ei ▸ jx)
 have vj:(rs.map fun z=>if z.a≠a/\par z.a=z.b then z.a else z.b)[j]'(by rw [List.length_map];exact lj)=b:=by
   rw [List.getElem_map];exact kid _ (List.getElem_mem lj) (ej ▸ jy)
 rcases Nat.lt_trichotomy i j with z|z|z
 . exact absurd (vi.trans vj.symm) (nd i j _ _ z)
 . exact z
 . exact absurd (vj.trans vi.symm) (nd j i _ _ z)
theorem JO {a b:Int} {x:Road} (h:¬ yU x a b):dU a b x=none:=by
 unfold dU;rw [if_neg (fun z=>h (.inl z)),if_neg (fun z=>h (.inr ⟨z.2,z.1⟩))]
theorem OY {m:Int} {rs:List Road} (g:Good m rs) {a b:Int} {i:Nat} {x:Road} (hi:rs[i]?=some x) (j:yU x a b):bF rs a b=dU a b x:=by
 have lt:=(List.getElem?_eq_some_iff.mp hi);obtain ⟨lt,ex⟩:=lt;have e:rs=rs.take i++x::rs.drop (i+1):=by rw [<- ex,List.getElem_cons_drop,List.take_append_drop]
 have pre:bF (rs.take i) a b=none:=by
   unfold bF;rw [List.findSome?_eq_none_iff];intro y hy;refine JO fun jy=>?_;obtain ⟨k,hk⟩:=List.getElem?_of_mem hy;have lk:=(List.getElem?_eq_some_iff.mp hk).1;rw [List.length_take] at lk;rw [List.getElem?_take_of_lt (by omega)] at hk;have:=OE g hk hi jy j;omega
 have hx:(dU a b x).isSome=true:=by
   unfold dU;rcases j with z|z
   . rw [if_pos z];rfl
   . by_cases c:x.a=a/\x.b=b
     . rw [if_pos c];rfl
     . rw [if_neg c,if_pos ⟨z.2,z.1⟩];rfl
 obtain ⟨v,hv⟩:=Option.isSome_iff_exists.mp hx;have:bF (rs.take i++x::rs.drop (i+1)) a b=dU a b x:=by
   unfold bF at pre ⊢;rw [List.findSome?_append,pre,List.findSome?_cons,hv]
   rfl
 rw [<- e] at this;exact this
section
variable {m:Int} {row:List Int} {rs rs':List Road}
end
end Pb
set_option Elab.async false
set_option linter.all false
set_option maxRecDepth 100000
namespace L2
open PySem PySem.Spec PyProof.Rows
def aV (CX:CXT):Prop:=∀ outer H s e s',¬ CX outer H s E0 e s'
theorem bH {CX:CXT} (q:aV CX) {X:Cx}:nu CX X E0:=fun _ _ _ _ _ _ _ h=>(q _ _ _ _ _ h).elim
structure Df (K:PySem.W.Frag) (mg:Str->Option Value) (x:Str) (st:Stmt) (ps:List Str) (f:Addr) (fd:FuncData):Prop where
 F:Fun K x x st f fd
 m:mg x=some (.ref f)
 b:Binds K fd ps []
section
variable {P:Program} {w:World} {K:PySem.W.Frag} {mg:Str->Option Value} {base:Heap} {CX:CXT}
theorem Fun.okC {x qual:Str} {st:Stmt} {f:Addr} {fd:FuncData} {N ps:List Str} {k:Nat} {sp:Sp} (F:Fun K x qual st f fd) (S:FnScope N ps (aa st)) (len:∀ vs H Q E,sp vs H Q E->vs.length=ps.length)
   (hbody:∀ (cdv:Value) (A:Around) (outer:List Env) (s:Shared) (H:Hp) (vs:List V) (Q:VK) (E:XK),Room k (A.deeper (envOfC qual (aa st) s.heap.objs.size f cdv))->sp vs H Q E ->
     ∃ t,PSs (lg CX P w K mg base N qual (aa st) f cdv A outer s H E).nox (aw st) t/\t { nx:=fun _ H'=>Q .non H',rt:=Q } (start N vs) H):FnOk P w K mg base CX (k+1) f fd ps sp:=by
 obtain ⟨oc,od,kV,doc,pm,an,cdv,ct,osl,rfl,lk,hcd⟩:=F.ex;refine RO lk hcd S len fun A outer s H vs Q E hr hsp=>?_;obtain ⟨t,h,q⟩:=hbody cdv A outer s H vs Q E hr hsp;exact ⟨t,h.nox,q⟩
end
structure NmL (sc:Scope) (x:Str):Prop where
 l:sc.names.lookup x=some .local
 d:(x == ("__debug__":Str))=false
 c:(x == ("__classdict__":Str))=false
structure NmG (sc:Scope) (x:Str):Prop where
 g:sc.names.lookup x=some .globalImplicit
 d:(x == ("__debug__":Str))=false
 n:x≠"__name__"
theorem us1 {us:List Value} (h:us.length=1):∃ a0,us=[a0]:=List.length_eq_one_iff.mp h
theorem us2 {us:List Value} (h:us.length=2):∃ a0 a1,us=[a0,a1]:=by
 cases us with
 | nil=>cases h
 | cons a0 t =>
   obtain ⟨a1,e⟩:=us1 (Nat.succ.inj h);subst e;exact ⟨a0,a1,rfl⟩
theorem us3 {us:List Value} (h:us.length=3):∃ a0 a1 a2,us=[a0,a1,a2]:=by
 cases us with
 | nil=>cases h
 | cons a0 t =>
   obtain ⟨a1,a2,e⟩:=us2 (Nat.succ.inj h);subst e;exact ⟨a0,a1,a2,rfl⟩
theorem us4 {us:List Value} (h:us.length=4):∃ a0 a1 a2 a3,us=[a0,a1,a2,a3]:=by
 cases us with
 | nil=>cases h
 | cons a0 t =>
   obtain ⟨a1,a2,a3,e⟩:=us3 (Nat.succ.inj h);subst e;exact ⟨a0,a1,a2,a3,rfl⟩
theorem us5 {us:List Value} (h:us.length=5):∃ a0 a1 a2 a3 a4,us=[a0,a1,a2,a3,a4]:=by
 cases us with
 | nil=>cases h
 | cons a0 t =>
   obtain ⟨a1,a2,a3,a4,e⟩:=us4 (Nat.succ.inj h);subst e;exact ⟨a0,a1,a2,a3,a4,rfl⟩
theorem us6 {us:List Value} (h:us.length=6):∃ a0 a1 a2 a3 a4 a5,us=[a0,a1,a2,a3,a4,a5]:=by
 cases us with
 | nil=>cases h
 | cons a0 t =>
   obtain ⟨a1,a2,a3,a4,a5,e⟩:=us5 (Nat.succ.inj h);subst e;exact ⟨a0,a1,a2,a3,a4,a5,rfl⟩
def nmL (sc:Scope) (x:Str):Bool:=decide (sc.names.lookup x=some .local) && !(x == ("__debug__":Str)) && !(x == ("__classdict__":Str))
def nmG (sc:Scope) (x:Str):Bool:=decide (sc.names.lookup x=some .globalImplicit) && !(x == ("__debug__":Str)) && !decide (x="__name__")
theorem NmL.of {sc:Scope} {x:Str} (h:nmL sc x=true):NmL sc x:=by
 unfold nmL at h;simp only [Bool.and_eq_true,decide_eq_true_eq,Bool.not_eq_true'] at h;exact ⟨h.1.1,h.1.2,h.2⟩
theorem NmG.of {sc:Scope} {x:Str} (h:nmG sc x=true):NmG sc x:=by
 unfold nmG at h;simp only [Bool.and_eq_true,decide_eq_true_eq,Bool.not_eq_true',decide_eq_false_iff_not] at h;exact ⟨h.1.1,h.1.2,h.2⟩
def T9 (N ps:List Str) (sc:Scope):Bool:=decide (sc.kind=.function) && !sc.isCoroutine && !sc.isGenerator && decide N.Nodup && decide (N.take ps.length=ps) && (ps.all fun x=>decide (sc.names.lookup x=some .local\/sc.names.lookup x=some .cell)) && (sc.names.all fun y=>decide (y.2≠.free))
theorem FnScope.of {N ps:List Str} {sc:Scope} (h:T9 N ps sc=true):FnScope N ps sc:=by
 unfold T9 at h;simp only [Bool.and_eq_true,decide_eq_true_eq,Bool.not_eq_true',List.all_eq_true] at h;obtain ⟨⟨⟨⟨⟨⟨h1,h2⟩,h3⟩,h4⟩,h5⟩,h6⟩,h7⟩:=h;exact ⟨h1,h2,h3,h4,h5,h6,h7⟩
theorem pvl {X:Cx} (i:Nat) {x:Str} {pos:Pos} (n:NmL X.env.scope x) (hN:X.N[i]?=some x:=by rfl):PE X (.Name x pos) (G2 i):=Oe hN (.inl n.l) n.d n.c
theorem NV {CX:CXT} {P:Program} {w:World} {K:PySem.W.Frag} {mg:Str->Option Value} {base:Heap} {N:List Str} {qual:Str} {scope:Scope} {f:Addr} {cd:Value} {A:Around} {outer:List Env} {s:Shared} {H:Hp} {E:XK} :
   (lg CX P w K mg base N qual scope f cd A outer s H E).K=K:=rfl
theorem DN (D:Ends) (σ:St) (H:Hp):tNever D σ H=False:=rfl
theorem R7 (i j:Int):wH (.int i) (.int j)=true:=rfl
theorem Sl (i j:Bool):wH (.bl i) (.bl j)=true:=rfl
theorem Sd (i:Int):wH (.int i) .non=true:=rfl
theorem R5 (i:Int):wH .non (.int i)=true:=rfl
theorem SC:wH .non .non=true:=rfl
theorem Sw (i j:Str):wH (.str i) (.str j)=true:=rfl
theorem ixT {K:PySem.W.Frag} {H:Hp} {p:Addr} {xs:List V} {i:Int} {v:V} {Q:VK} (h:H p=some (.tup xs)) (e:atI xs i=some v) (q:Q v H):PM K (.ref p) (.int i) H Q:=⟨p,xs,i,v,rfl,rfl,SqT.of h,e,q⟩
theorem ixL {K:PySem.W.Frag} {H:Hp} {p:Addr} {xs:List V} {i:Int} {v:V} {Q:VK} (h:H p=some (.lst xs)) (e:atI xs i=some v) (q:Q v H):EL K (.ref p) (.int i) H Q:=⟨p,xs,i,v,rfl,rfl,SqL.of h,e,q⟩
theorem ixS {K:PySem.W.Frag} {H:Hp} {p:Addr} {xs:List V} {i:Int} {v:V} {Q:VK} (h:SqL K H p xs) (e:atI xs i=some v) (q:Q v H):EL K (.ref p) (.int i) H Q:=⟨p,xs,i,v,rfl,rfl,h,e,q⟩
theorem tyL {K:PySem.W.Frag} {H:Hp} {l:Addr} {xs:List V} (h:H l=some (.lst xs)):tyV K "list" (.ref l) H:=.inl ⟨rfl,_,SqL.of h⟩
theorem AG {H:Hp} {l:Addr} {xs:List V} {y:V} {Q:VK} (h:H l=some (.lst xs)) (hz:xs.length<sizeLine) (q:Q .non (upd H l (.lst (xs++[y])))):rAppend (.ref l) [y] H Q:=⟨l,xs,y,rfl,rfl,h,hz,q⟩
theorem UL {H:Hp} {l:Addr} {xs:List V} {i:Int} {y:V} {Q:VK} (h:H l=some (.lst xs)) (h0:0<=i) (h1:i<=xs.length) (hz:xs.length<sizeLine) (q:Q .non (upd H l (.lst (xs.take i.toNat++y::xs.drop i.toNat)))):rInsert (.ref l) [.int i,y] H Q :=
 ⟨l,xs,i,y,rfl,rfl,h,h0,h1,hz,q⟩
theorem UJ {H:Hp} {l:Addr} {xs:List V} {y:V} {Q:VK} (h:H l=some (.lst (xs++[y]))) (q:Q y (upd H l (.lst xs))):rPop (.ref l) [] H Q :=
 ⟨l,xs++[y],y,rfl,rfl,h,by simp,by rw [List.dropLast_concat];exact q⟩
theorem ir {n:Nat} (h:n<=100000):n<sizeLine:=Nat.lt_of_le_of_lt h (by decide)
theorem ax {n:Nat} (h:n<=100000):n<=sizeLine:=Nat.le_of_lt (ir h)
theorem yZ {α:Type} {xs:List α} {i:Int} {v:α} (h0:0<=i) (h:xs[i.toNat]?=some v):atI xs i=some v:=by
 obtain ⟨n,rfl⟩:∃ n:Nat,i=n:=⟨i.toNat,by omega⟩;exact Su (by simpa using h)
theorem Ab {X:Cx} {x:Str} {i:Int} {pos:Pos} (hg:Gl X x) (hm:∃ t,X.mg x=some (.int i t)) (hd:(x == ("__debug__":Str))=false:=by decide):PE X (.Name x pos) (tC (.int i)):=by
 obtain ⟨t,e⟩:=hm;exact ff hg e ⟨t,rfl⟩ hd
def Itx (K:PySem.W.Frag):Bool->Addr->It
 | true,a=>Itl K a
 | false,a=>Itt K a
def P3 (K:PySem.W.Frag) (c:Bool) (tl:TE):TI:=fun σ H R=>tl σ H fun x H1=>∃ a,x=.ref a/\(∃ xs,SqX K c H1 a xs)/\R (Itx K c a) H1
theorem Oh {X:Cx} {tg l:Expr} {tl:TE} (c:Bool) (hl:PE X l tl):PI X tg l (P3 X.K c tl):=by
 cases c
 . exact wI hl
 . exact y4 hl
def EY (J:It) (p:Addr) (Q:VK) (g:TG) (tc:TT) (te:TE) (σ0:St) (H0:Hp):Prop :=
 ∃ W:Nat->Nat->List V->St->Hp->Prop,(∃ m,W 0 m [] σ0 H0)/\∀ i m ys σc Hc,W i m ys σc Hc ->
   (J.stop i Hc/\Q (.ref p) Hc)\/(J.go i Hc/\∀ x H',J.yld i Hc x H'->g x σc H' fun σ2 H2=>tc σ2 H2 fun b H3 =>
     if b=true then te σ2 H3 fun y H4=>H4 p=some (.lst ys)/\ys.length<sizeLine/\∃ m',m'<m/\W (i+1) m' (ys++[y]) σ2 (upd H4 p (.lst (ys++[y])))
     else ∃ m',m'<m/\W (i+1) m' ys σ2 H3)
theorem DF {own:Nat} {js:List Nat} {wi:TI} {g:TG} {tc:TT} {te:TE} {σ:St} {H:Hp} {Q:VK}:R1 own js wi g tc te σ H Q=wi σ H fun J H1=>∀ p,H1 p=none->EY J p Q g tc te (gN own js σ) (upd H1 p (.lst [])):=rfl
def qI (J:It) (D:Ends) (g:TG) (tb:TS) (σ:St) (H:Hp):Prop:=∃ W:Nat->Nat->St->Hp->Prop,(∃ m,W 0 m σ H)/\∀ i m σ H,W i m σ H ->
 (J.stop i H/\D.nx σ H)\/(J.go i H/\∃ N:St->Hp->Prop,(∀ σ' H',N σ' H'->∃ m',m'<m/\W (i+1) m' σ' H')/\∀ x H',J.yld i H x H'->g x σ H' fun σ2 H2=>tb { D with nx:=N,ct:=N,bk:=D.nx } σ2 H2)
theorem IR {wi:TI} {g:TG} {tb:TS} {D:Ends} {σ:St} {H:Hp}:Ue wi g tb D σ H=wi σ H fun J H1=>qI J D g tb σ H1:=rfl
theorem Ft {K:PySem.W.Frag} {c:Bool} {a p:Addr} {xs:List V} {Q:VK} {g:TG} {tc:TT} {te:TE} {σ0:St} {H0:Hp} (Pv:Nat->List V->St->Hp->Prop) (h0:Pv 0 [] σ0 H0) (hl:∀ i ys σ H,i<=xs.length->Pv i ys σ H->SqX K c H a xs)
   (hs:∀ (i:Nat) (x:V) (ys:List V) (σ:St) (H:Hp) (N:List V->St->Hp->Prop),(∀ ys' σ' H',Pv (i+1) ys' σ' H'->N ys' σ' H')->xs[i]?=some x->Pv i ys σ H->g x σ H fun σ2 H2=>tc σ2 H2 fun b H3 =>
     if b=true then te σ2 H3 fun y H4=>H4 p=some (.lst ys)/\ys.length<sizeLine/\N (ys++[y]) σ2 (upd H4 p (.lst (ys++[y]))) else N ys σ2 H3)
   (hd:∀ ys σ H,Pv xs.length ys σ H->Q (.ref p) H):EY (Itx K c a) p Q g tc te σ0 H0:=by
 refine ⟨fun i m ys σ H=>m=xs.length - i/\i<=xs.length/\Pv i ys σ H,⟨xs.length,by simp,Nat.zero_le _,h0⟩,?_⟩;rintro i m ys σ H ⟨rfl,hi,pv⟩;have q:=hl i ys σ H hi pv;by_cases hlt:i<xs.length
 . refine .inr ⟨?_,fun x H' y=>?_⟩
   . cases c
     . exact ⟨xs,xs[i],q,by simp [hlt]⟩
     . exact ⟨xs,xs[i],q,by simp [hlt]⟩
   . have e:H'=H/\xs[i]?=some x:=by
       cases c
       . exact ⟨y.1,y.2 xs q⟩
       . exact ⟨y.1,y.2 xs q⟩
     obtain ⟨rfl,hx⟩:=e;exact hs i x ys σ _ (fun ys' σ' H'=>∃ m',m'<xs.length - i/\(m'=xs.length - (i+1)/\i+1<=xs.length/\Pv (i+1) ys' σ' H')) (fun ys' σ' H' pv'=>⟨xs.length - (i+1),by omega,rfl,hlt,pv'⟩) hx pv
 . have e:i=xs.length:=by omega
   subst e;refine .inl ⟨?_,hd ys σ H pv⟩;cases c
   . exact ⟨xs,q,Nat.le_refl _⟩
   . exact ⟨xs,q,Nat.le_refl _⟩
theorem eN:bootBuiltins "len"=some (.builtin "len"):=by decide +kernel
theorem b9:bootBuiltins "isinstance"=some (.builtin "isinstance"):=by decide +kernel
theorem To:bootBuiltins "all"=some (.builtin "all"):=by decide +kernel
theorem OQ:bootBuiltins "sorted"=some (.builtin "sorted"):=by decide +kernel
theorem FU:bootBuiltins "int"=some (.type "int"):=by decide +kernel
theorem tV:bootBuiltins "list"=some (.type "list"):=by decide +kernel
theorem jk:bootBuiltins "tuple"=some (.type "tuple"):=by decide +kernel
theorem SW:bootBuiltins "bool"=some (.type "bool"):=by decide +kernel
section
variable {X:Cx} {a b o e:Expr} {es:List Expr} {ta tb to:TE} {t:TA} {pos apos cpos:Pos} {f name:Str} {T id:String} {r:V->List V->Hp->VK->Prop}
theorem CT (K:PySem.W.Frag) (h:X.K=K):jF X (.type "tuple") (fun xs H Q=>∃ p ys,xs=[.ref p]/\((SqL K H p ys/\∀ l,H l=none->Q (.ref l) (upd H l (.tup ys)))\/(SqT K H p ys/\Q (.ref p) H))):=by subst h;exact d0
end
theorem BP {x:Str} {k:NameKind}:∀ {l:List (Str × NameKind)},l.lookup x=some k->∃ y,(y,k)∈l
 | [],h=>by simp at h
 | (n,j)::r,h=>by
   rw [List.lookup_cons] at h;cases q:x == n with
   | true =>
     rw [q] at h;cases h;exact ⟨n,List.mem_cons_self⟩
   | false =>
     rw [q] at h;obtain ⟨y,hy⟩:=BP h;exact ⟨y,List.mem_cons_of_mem _ hy⟩
theorem Ad {X:Cx} {Nc:List Str} {scope:Scope} (own:Nat) (hf:∀ y∈scope.names,y.2≠.free) (hc:∀ y∈scope.names,y.2≠.cell) (hk:scope.kind=.function) (hn:∀ y∈scope.names,y.2=.local->scope.names.lookup y.1=some .local)
   (hl:Nc.length=own):CompTxt X Nc own [] scope [] where
 clos:=closureFor_none hf
 kind:=hk
 nocell:=hc
 names:=hn
 cells:=fun x c h=>by cases h
 has:=fun x h=>by
   have key:∀ k,(relabel scope X.env).names.lookup x=some k->k≠.cell/\k≠.free:=fun k e=>by
     obtain ⟨y,hy⟩:=BP e;obtain ⟨⟨n,k0⟩,hm,e2⟩:=List.mem_map.mp hy;have h1:=hf _ hm;have h2:=hc _ hm;have e3:(k0 == NameKind.free)=false:=(by simpa using h1);simp only [e3,Bool.false_and,Bool.false_eq_true,if_false] at e2;cases e2;exact ⟨h2,h1⟩
   rcases h with h|h
   . exact absurd rfl (key _ h).1
   . exact absurd rfl (key _ h).2
 len:=by simpa using hl
 outer:=fun i x h=>by
   rw [List.getElem?_eq_none (by omega)] at h;cases h
theorem yz {K:PySem.W.Frag} {a:Addr} {xs:List V} {g:TG} {tb:TS} {D:Ends} {σ:St} {H:Hp} (Pv:Nat->St->Hp->Prop) (h0:Pv 0 σ H) (hl:∀ i σ H,i<=xs.length->Pv i σ H->SqL K H a xs)
   (hs:∀ (i:Nat) (x:V) (σ:St) (H:Hp) (N:St->Hp->Prop),(∀ σ' H',Pv (i+1) σ' H'->N σ' H')->xs[i]?=some x->Pv i σ H->g x σ H fun σ2 H2=>tb { D with nx:=N,ct:=N,bk:=D.nx } σ2 H2) (hd:∀ σ H,Pv xs.length σ H->D.nx σ H) :
   qI (Itl K a) D g tb σ H:=QD Pv h0 hl (fun i x σ H hx p=>hs i x σ H (Pv (i+1)) (fun _ _ z=>z) hx p) hd
theorem GZ {K:PySem.W.Frag} {a:Addr} {xs:List V} {g:TG} {tb:TS} {D:Ends} {σ:St} {H:Hp} (Pv:Nat->St->Hp->Prop) (h0:Pv 0 σ H) (hl:∀ i σ H,i<=xs.length->Pv i σ H->SqT K H a xs)
   (hs:∀ (i:Nat) (x:V) (σ:St) (H:Hp) (N:St->Hp->Prop),(∀ σ' H',Pv (i+1) σ' H'->N σ' H')->xs[i]?=some x->Pv i σ H->g x σ H fun σ2 H2=>tb { D with nx:=N,ct:=N,bk:=D.nx } σ2 H2) (hd:∀ σ H,Pv xs.length σ H->D.nx σ H) :
   qI (Itt K a) D g tb σ H:=C2 Pv h0 hl (fun i x σ H hx p=>hs i x σ H (Pv (i+1)) (fun _ _ z=>z) hx p) hd
theorem ua {lo:Int} {n:Nat} {g:TG} {tb:TS} {D:Ends} {σ:St} {H:Hp} (Pv:Nat->St->Hp->Prop) (h0:Pv 0 σ H)
   (hs:∀ (i:Nat) (σ:St) (H:Hp) (N:St->Hp->Prop),(∀ σ' H',Pv (i+1) σ' H'->N σ' H')->i<n->Pv i σ H->g (.int (lo+i)) σ H fun σ2 H2=>tb { D with nx:=N,ct:=N,bk:=D.nx } σ2 H2) (hd:∀ σ H,Pv n σ H->D.nx σ H) :
   qI (Itr lo n) D g tb σ H:=NN Pv h0 (fun i σ H hi p=>hs i σ H (Pv (i+1)) (fun _ _ z=>z) hi p) hd
theorem SV {c:TT} {tb:TS} {D:Ends} {σ:St} {H:Hp} (W:Nat->St->Hp->Prop) (n0:Nat) (h0:W n0 σ H)
   (hs:∀ (n:Nat) (σ:St) (H:Hp) (N:St->Hp->Prop),(∀ n' σ' H',n'<n->W n' σ' H'->N σ' H')->(∀ σ' H',N σ' H'->∃ m',m'<n/\W m' σ' H')->W n σ H ->
     c σ H fun b H1=>if b=true then ∃ N:St->Hp->Prop,(∀ σ' H',N σ' H'->∃ m',m'<n/\W m' σ' H')/\tb { D with nx:=N,ct:=N,bk:=D.nx } σ H1 else D.nx σ H1):NT c tb D σ H :=
 ⟨W,⟨n0,h0⟩,fun n σ H w=>hs n σ H (fun σ' H'=>∃ m',m'<n/\W m' σ' H') (fun n' _ _ hn w'=>⟨n',hn,w'⟩) (fun _ _ z=>z) w⟩
theorem p60:(0:Int)<10^(60:Int).toNat:=Int.pow_pos (by decide)
open Pb
def oO (r:Road):List V:=[.int r.a,.int r.b,.int r.t,.int r.u]
abbrev RoadsAt (H:Hp):List Addr->List Road->Prop:=Paired fun p r=>H p=some (.tup (oO r))
theorem RoadsAt.same {H H':Hp} (e:Same H H') {ps:List Addr} {rs:List Road} (h:RoadsAt H ps rs):RoadsAt H' ps rs:=Paired.imp' (fun p r q=>e p _ q) h
theorem RoadsAt.get {H:Hp}:∀ {ps:List Addr} {rs:List Road} {i:Nat} {x:V},RoadsAt H ps rs->(ps.map V.ref)[i]?=some x->∃ p r,x=.ref p/\ps[i]?=some p/\rs[i]?=some r/\H p=some (.tup (oO r))
 | _,_,i,x,.nil,e=>by simp at e
 | _,_,0,x,.cons (a:=p) (b:=r) h hs,e=>⟨p,r,by simpa using e.symm,by simp,by simp,h⟩
 | a::l1,_,i+1,x,.cons h hs,e=>by
   have e':(List.map V.ref l1)[i]?=some x:=by simpa using e
   obtain ⟨p,r,h1,h2,h3,h4⟩:=RoadsAt.get hs e';exact ⟨p,r,h1,by simpa using h2,by simpa using h3,h4⟩
theorem Same.tup {K:PySem.W.Frag} {H H':Hp} {a:Addr} {xs:List V} (e:Same H H') (h:SqT K H a xs):SqT K H' a xs:=by
 rcases h with (h|⟨o,h⟩)|h
 . exact .inl (.inl (e _ _ h))
 . exact .inl (.inr ⟨o,e _ _ h⟩)
 . exact .inr h
theorem Same.sqX {K:PySem.W.Frag} {H H':Hp} {c:Bool} {a:Addr} {xs:List V} (e:Same H H') (h:SqX K c H a xs):SqX K c H' a xs:=by
 cases c
 . exact Same.tup e h
 . exact Same.seq e h
theorem Same.new {H:Hp} {p:Addr} (o:HO) (h:H p=none):Same H (upd H p o):=fun b u e=>by rw [aq (bi e h)];exact e
end L2
set_option Elab.async false
set_option linter.all false
set_option maxRecDepth 100000
namespace L2
open PySem PySem.Spec PyProof.Rows
abbrev bmV:List Value:=[.type "ValueError",.type "Exception",.type "BaseException",.type "object"]
structure XCls (K:PySem.W.Frag) (C:Addr):Prop where
 ty:PySem.W.typeIn K (.ref C)=some (.type "type")
 ga:PySem.W.findIn K (.ref C) "__getattribute__"=some (some (.builtin "BaseException.__getattribute__"))
 gt:PySem.W.findIn K (.ref C) "__getattr__"=some none
 cl:PySem.W.findIn K (.ref C) "__class__"=some (some (.builtin "object.__class__"))
 gs:PySem.W.specialIn K (.builtin "object.__class__") "__get__"=some (some (.builtin "getset_descriptor.__get__"))
 tk:PySem.W.takesIn K (.builtin "object.__class__")=some true
 mo:PySem.W.mroIn K C (.type "object")=some true
 mb:PySem.W.mroIn K C (.type "BaseException")=some true
 hd:PySem.W.hasDictIn K C=true
 sf:PySem.W.mroIn K C (.ref C)=some true
theorem NG {K:PySem.W.Frag} {C:Addr} {od:Option Obj} {name:Str} {a g:Value} (hc:(PySem.W.clsIn K C).isSome=true) (ha:PySem.W.findIn K (.ref C) name=some (some a)) (hg:PySem.W.specialIn K a "__get__"=some (some g)) (ht:PySem.W.takesIn K a=some true) :
   PySem.W.findObj K C od name=some (.bind g a):=by
 obtain ⟨cd,hc⟩:=Option.isSome_iff_exists.mp hc;unfold PySem.W.findObj;rw [hc,Option.bind_some,ha,Option.bind_some];simp [hg,ht]
section
variable {prog:Program} {w:World} {A:Around} {E:Value->Shared->Prop} {s:Shared} {K:PySem.W.Frag} {x C:Addr} {ox:Obj} {od:Option Obj}
theorem DA {M:Model} {nv:Value} {Q:Unit->Shared->Prop} (X:K.In s.heap) (I:PySem.W.InstAt s.heap x ox C od) (c:XCls K C) (h:Q () s):wpAny M A (checkBuiltinCall "BaseException.__getattribute__" ⟨[.ref x,nv],[]⟩) Q E s:=by
 obtain ⟨hh,g,dr,t,os⟩:=s;have hk:builtinKind "BaseException.__getattribute__"=some .slot:=by decide +kernel
 have hs:splitId "BaseException.__getattribute__"=some ("BaseException","__getattribute__"):=by decide +kernel
 have L0:=I.type (M:=M);have L1:=PySem.W.looks_mroIn (M:=M) X c.mb;have ha:=F.args_bexc_ga (.ref x) nv;simp only [checkBuiltinCall,hk,hs];unfold isInstance
 repeat (first|lk|wp_step)
 exact h
theorem Nl {Q:Option Value->Shared->Prop} (X:K.In s.heap) (I:PySem.W.InstAt s.heap x ox C od) (c:XCls K C) (h:Q (some (.ref C)) { s with toks:=s.toks+1 }):wpAny (model prog w) A (getAttr? (.ref x) "__class__") Q E s:=by
 obtain ⟨hh,g,dr,t,os⟩:=s;have hc:(PySem.W.clsIn K C).isSome=true:=by
   obtain ⟨cd,e,_⟩:=PySem.W.any_some c.hd;rw [e]
   rfl
 have L0:=I.type (M:=model prog w);have L1:=PySem.W.looks_findIn (M:=model prog w) X c.ga;have L2:=PySem.W.looks_findIn (M:=model prog w) X c.gt;have L3:=PySem.W.looks_find (M:=model prog w) X I (NG (od:=od) hc c.cl c.gs c.tk);have n2:(Value.builtin "BaseException.__getattribute__" == Value.builtin "object.__getattribute__")=false:=by decide +kernel
 have n1:(onTheHeap (Value.ref C) && Value.builtin "BaseException.__getattribute__" == Value.builtin "object.__getattribute__")=false:=by rw [n2];rfl
 have b1:=F.excAttr_ValueError.ga.bind (.ref x);unfold getAttr? getAttrBy? getAttrBy;refine wpAny_bind (wpAny_mkText (wpAny_bind (wpAny_attempt (wpAny_holding (wpAny_bind (L0.at (wpAny_bind (L1.at ?_))))))));dsimp only;rw [n1];simp only [Bool.false_eq_true,if_false];unfold getAttrByItsOwn hookBefore callGetattribute boundAndCalled;simp only [onTheHeap,Bool.and_false,Bool.false_eq_true,if_false,if_true];refine wpAny_bind (L2.at (wpAny_bind (wpAny_attempt (wpAny_holding (wpAny_bind (wpAny_of_eq b1 ?_))))));refine wpAny_call (codeAny_call_builtin F.excAttr_ValueError.ga.plain F.entry_bexc_ga (DA X I c ?_));unfold Builtin.«object.__getattribute__»
 repeat lk
 refine wpAny_run (h:=none) (PySem.W.class_get (s:=⟨hh,g,dr,t+1,os⟩) (ox:=ox) (od:=od) X I c.mo ?_);refine wpAny_pure (wpAny_pure ?_);exact PySem.W.handed_on rfl (wpAny_pure h)
theorem Go (c:XCls K C):PySem.W.KitX K (.ref x) (.ref C) (fun h=>PySem.W.InstAt h x ox C od) where
 ty:=fun _ _ _ I=>I.type
 it:=fun _ _ X _=>by
   obtain ⟨cd,e,_⟩:=PySem.W.any_some c.hd;unfold PySem.W.clsIn at e;split at e
   . rename_i ho
     intro A' Q' E' s' k q;unfold isType loadHead;exact wpAny_bind (wpAny_loadPart (k _ _ (X _ _ ho)) (wpAny_pure q))
   . cases e
 ne:=fun h tp dd its n sl X htp=>by
   obtain ⟨cd,e,_⟩:=PySem.W.any_some c.hd;refine Bool.eq_false_iff.mpr fun q=>?_;have z:C=tp:=Value.ref.inj (beq_iff_eq.mp q);subst z;unfold PySem.W.clsIn at e;split at e
   . rename_i ho
     cases (X _ _ ho).symm.trans htp
   . cases e
 ca:=fun X I k=>Nl X I c k
end
end L2
set_option Elab.async false
set_option linter.all false
set_option maxRecDepth 100000
namespace L2
open PySem PySem.Spec PyProof.Rows
def jQ (h:Heap) (ea:Addr) (cls:Value) (od:Option Addr) (head:Value):Prop:=∃ oe vs,h.get? ea=some oe/\oe.cls=cls/\oe.dict=od/\oe.data=.fields vs/\vs[1]?=some head/\vs[2]?=some .none
def TbO (h:Heap) (T:Addr) (fl:Value):Prop:=∃ oT ts,h.get? T=some oT/\oT.data=.fields ts/\ts[3]?=some fl
structure Err (h:Heap) (ea T:Addr) (cls:Value) (od:Option Addr) (fl:Value):Prop where
 e:jQ h ea cls od (.ref T)
 t:TbO h T fl
 ne:T≠ea
structure Kept (fs xs:List Addr) (h h':Heap):Prop where
 keep:∀ b o,h.get? b=some o->b ∉ fs->b ∉ xs->h'.get? b=some o
 slot:∀ b o,h.get? b=some o->b∈fs->b ∉ xs->∃ sl,h'.get? b=some { o with slots:=sl }
 there:∀ b o,h.get? b=some o->∃ o',h'.get? b=some o'
theorem Kept.mono {fs xs ys:List Addr} {h h':Heap} (k:Kept fs xs h h') (s:∀ b∈xs,b∈ys):Kept fs ys h h':=⟨fun b o e f x=>k.keep b o e f fun z=>x (s b z),fun b o e f x=>k.slot b o e f fun z=>x (s b z),k.there⟩
theorem Kept.trans {fs xs:List Addr} {h h1 h2:Heap} (a:Kept fs xs h h1) (b:Kept fs xs h1 h2):Kept fs xs h h2 where
 keep:=fun c o e f x=>b.keep c o (a.keep c o e f x) f x
 slot:=fun c o e f x=>by
   obtain ⟨s1,e1⟩:=a.slot c o e f x;obtain ⟨s2,e2⟩:=b.slot c _ e1 f x;exact ⟨s2,e2⟩
 there:=fun c o e=>by
   obtain ⟨o1,e1⟩:=a.there c o e;exact b.there c o1 e1
theorem Kept.of_all {fs xs:List Addr} {h h':Heap} (k:∀ b o,h.get? b=some o->h'.get? b=some o):Kept fs xs h h':=⟨fun b o e _ _=>k b o e,fun b o e _ _=>⟨o.slots,k b o e⟩,fun b o e=>⟨o,k b o e⟩⟩
theorem AB {fs xs:List Addr} {h:Heap} {a:Addr} {oa:Obj} {vs:Array Value} {i:Nat} {v:Value} (ha:h.get? a=some oa) (hd:oa.data=.fields vs) (hx:a∈xs):Kept fs xs h (h.update a (Obj.mapFields (·.setIfInBounds i v))):=by
 have oth:∀ b o,h.get? b=some o->b ∉ xs->(h.update a (Obj.mapFields (·.setIfInBounds i v))).get? b=some o:=fun b o e x=>by
   rw [Heap.get?_update_other _ _ (fun (z:a=b)=>x (z ▸ hx))];exact e
 refine ⟨fun b o e _ x=>oth b o e x,fun b o e _ x=>⟨o.slots,oth b o e x⟩,fun b o e=>?_⟩;by_cases z:b=a
 . subst z;exact ⟨_,Heap.get?_update_self _ ha (Obj.isFreed_of_fields (Obj.data_mapFields hd _))⟩
 . rw [Heap.get?_update_other _ _ (Ne.symm z)];exact ⟨o,e⟩
theorem PR {h:Heap} {ea:Addr} {cls hd v:Value} {od:Option Addr} (e:jQ h ea cls od hd):jQ (h.update ea (Obj.mapFields (·.setIfInBounds 1 v))) ea cls od v:=by
 obtain ⟨oe,vs,h1,h2,h3,h4,h5,h6⟩:=e;have sz:1<vs.size:=(Array.getElem?_eq_some_iff.mp h5).1;refine ⟨_,_,Heap.get?_update_self _ h1 (Obj.isFreed_of_fields (Obj.data_mapFields h4 _)),?_,?_,Obj.data_mapFields h4 _,by simp [sz],by rw [Array.getElem?_setIfInBounds_ne (by decide)];exact h6⟩
 . rw [<- h2];exact Obj.cls_mapFields _ _
 . rw [<- h3];obtain ⟨c,d,dt,sl⟩:=oe;cases dt <;> rfl
theorem Bw {h:Heap} {ea a:Addr} {cls hd:Value} {od:Option Addr} {f:Obj->Obj} (e:jQ h ea cls od hd) (ne:a≠ea):jQ (h.update a f) ea cls od hd:=by
 obtain ⟨oe,vs,h1,h2⟩:=e;exact ⟨oe,vs,by rw [Heap.get?_update_other _ _ ne];exact h1,h2⟩
theorem DM {h h':Heap} {ea:Addr} {cls hd:Value} {od:Option Addr} (e:jQ h ea cls od hd) (k:∀ o,h.get? ea=some o->h'.get? ea=some o):jQ h' ea cls od hd:=by
 obtain ⟨oe,vs,h1,h2⟩:=e;exact ⟨oe,vs,k _ h1,h2⟩
theorem OW {h base:Heap} {ea:Addr} {cls hd:Value} {od:Option Addr} {l:List Env} (e:jQ h ea cls od hd) (f:h.FunFrames base l):ea ∉ frs l:=fun z=>by
 obtain ⟨oe,vs,h1,_,_,h4,_⟩:=e;obtain ⟨_,o,ho,hn⟩:=f.mem z;rw [h1] at ho;cases ho;exact hn vs h4
theorem Qj {h base:Heap} {T:Addr} {fl:Value} {l:List Env} (e:TbO h T fl) (f:h.FunFrames base l):T ∉ frs l:=fun z=>by
 obtain ⟨oe,vs,h1,h4,_⟩:=e;obtain ⟨_,o,ho,hn⟩:=f.mem z;rw [h1] at ho;cases ho;exact hn vs h4
section
variable {M:Model} {A:Around} {E:Value->Shared->Prop} {s:Shared} {Q:Unit->Shared->Prop} {fs:List Addr} {ea T L:Addr} {cls fl hd:Value} {od:Option Addr} {base:Heap} {env:Env} {outer:List Env}
theorem y0 (r:Err s.heap ea T cls od fl) (h:∀ h',Err h' ea T cls od .none->Kept fs [T] s.heap h'->Q () { s with heap:=h' }):wpAny M A (setFlight (.ref ea) none) Q E s:=by
 obtain ⟨⟨oe,vs,h1,h2,h3,h4,h5,h6⟩,⟨oT,ts,t1,t2,t3⟩,ne⟩:=r;have sz:3<ts.size:=(Array.getElem?_eq_some_iff.mp t3).1;unfold setFlight;refine wpAny_bind (wpAny_field h1 h4 h5 ?_);rw [if_pos (by simp:(Value.ref T != Value.none)=true)];refine wpAny_setField t1 t2 sz (h _ ⟨Bw ⟨oe,vs,h1,h2,h3,h4,h5,h6⟩ ne,⟨_,_,Heap.get?_update_self _ t1 (Obj.isFreed_of_fields (Obj.data_mapFields t2 _)),Obj.data_mapFields t2 _,by simp [sz]⟩,ne⟩ (AB t1 t2 (by simp)))
theorem G1 {head:Value} {hadNext:Bool} (hfr:A.frames=some (env::outer)) (hl:s.heap.FunFrames base (env::outer)) (hf:env.frame=some L) (r:jQ s.heap ea cls od hd)
   (h:∀ h' T',Err h' ea T' cls od (rawInt L)->Kept (frs (env::outer)) [ea] s.heap h'->s.heap.get? T'=none->Q () { s with heap:=h' }) :
   wpAny M A (do let a <- frameOf env;let pl <- entryPlaceOf L hadNext;let b <- EntryCells.newEntry head a .none (rawInt L) .none pl;setField (.ref ea) 1 b) Q E s:=by
 have nf:=OW r hl;refine wpAny_bind (wpAny_frameOf_fun hfr hl hf fun g1 so=>wpAny_bind (wpAny_entryPlaceOf fun pl hpl=>?_));unfold EntryCells.newEntry newFields;refine wpAny_bind (wpAny_newObj_type ?_ (hpl.sizeOk5 _ _ _ _ _));have r1:jQ g1 ea cls od hd:=DM r fun o e=>(so.2.1 ea nf).trans e;generalize ht:({ cls:=.type "traceback",dict:=none,data:=.fields ([head,.ref L,.none,rawInt L,.none]++(if pl.isEmpty then List.replicate 6 Value.none else pl)).toArray }:Obj)=tb;have r2:jQ (g1.push tb) ea cls od hd:=DM r1 fun o e=>Heap.get?_push_of_some _ e;obtain ⟨oe,vs,e1,e2,e3,e4,e5,e6⟩:=id r2;have lt:ea<g1.objs.size:=by
   obtain ⟨_,_,e,_⟩:=r1;exact Heap.lt_size e
 have hT:(g1.push tb).get? g1.objs.size=some tb:=Heap.get?_push_size g1 (by rw [<- ht];rfl);refine wpAny_setField e1 e4 (Array.getElem?_eq_some_iff.mp e5).1 (h _ g1.objs.size ⟨PR r2,⟨tb,([head,.ref L,.none,rawInt L,.none]++(if pl.isEmpty then List.replicate 6 Value.none else pl)).toArray,?_,by rw [<- ht],by simp⟩,Nat.ne_of_gt lt⟩ ?_ ?_)
 . rw [Heap.get?_update_other _ _ (Nat.ne_of_lt lt)];exact hT
 . have k1:Kept (frs (env::outer)) [ea] s.heap g1:=⟨fun b o e f _=>(so.2.1 b f).trans e,fun b o e _ _=>so.2.2 b o e,fun b o e=>by
     obtain ⟨sl,z⟩:=so.2.2 b o e;exact ⟨_,z⟩⟩
   exact k1.trans ((Kept.of_all fun b o e=>Heap.get?_push_of_some _ e).trans (AB e1 e4 (by simp)))
 . exact Heap.get?_none_of_le (by rw [so.1];exact Nat.le_refl _)
theorem Qv (hfr:A.frames=some (env::outer)) (hl:s.heap.FunFrames base (env::outer)) (hf:env.frame=some L) (r:jQ s.heap ea cls od .none)
   (h:∀ h' T',Err h' ea T' cls od (rawInt L)->Kept (frs (env::outer)) [ea] s.heap h'->s.heap.get? T'=none->Q () { s with heap:=h' }):wpAny M A (noteFrame (.ref ea) env) Q E s:=by
 obtain ⟨oe,vs,e1,e2,e3,e4,e5,e6⟩:=id r;unfold noteFrame;simp only [hf];refine wpAny_bind (wpAny_field e1 e4 e5 ?_);rw [if_neg (by decide)];exact G1 hfr hl hf r h
theorem Jg (hfr:A.frames=some (env::outer)) (hl:s.heap.FunFrames base (env::outer)) (hf:env.frame=some L) (r:Err s.heap ea T cls od .none)
   (h:∀ h' T',Err h' ea T' cls od (rawInt L)->Kept (frs (env::outer)) [ea,T] s.heap h'->s.heap.get? T'=none->Q () { s with heap:=h' }):wpAny M A (noteFrame (.ref ea) env) Q E s:=by
 have nT:=Qj r.t hl;obtain ⟨⟨oe,vs,e1,e2,e3,e4,e5,e6⟩,⟨oT,ts,t1,t2,t3⟩,ne⟩:=id r;unfold noteFrame;simp only [hf];refine wpAny_bind (wpAny_field e1 e4 e5 ?_);rw [if_pos (by simp:(Value.ref T != Value.none)=true)];refine wpAny_bind (wpAny_field t1 t2 t3 ?_);rw [if_neg (by simp [rawInt])];have k1:Kept (frs (env::outer)) [ea,T] s.heap (s.heap.update T (Obj.mapFields (·.setIfInBounds 3 Value.none))):=AB t1 t2 (by simp);refine wpAny_bind (wpAny_setField t1 t2 (Array.getElem?_eq_some_iff.mp t3).1 ?_);refine G1 hfr (hl.of_keeps fun b o e nf=>⟨o,?_,rfl⟩) hf (Bw r.e ne) fun h' T' r' k2 n=>h h' T' r' (k1.trans (k2.mono (by simp))) ?_
 . by_cases z:b=T
   . subst z;rw [t1] at e;cases e;exact absurd t2 (nf ts)
   . rw [Heap.get?_update_other _ _ (Ne.symm z)];exact e
 . cases q:s.heap.get? T' with
   | none=>rfl
   | some o =>
     obtain ⟨o',z⟩:=k1.there T' o q;rw [z] at n;cases n
theorem Dx (hfr:A.frames=some (env::outer)) (hl:s.heap.FunFrames base (env::outer)) (hf:env.frame=some L) (r:jQ s.heap ea cls od .none)
   (h:∀ h' T',Err h' ea T' cls od .none->Kept (frs (env::outer)) [ea] s.heap h'->s.heap.get? T'=none->Q () { s with heap:=h' }):wpAny M A (leaving env (.ref ea)) Q E s:=by
 unfold leaving;refine wpAny_bind (Qv hfr hl hf r fun h1 T1 r1 k1 n1=>y0 (fs:=frs (env::outer)) (s:={ s with heap:=h1 }) r1 fun h2 r2 k2=>h h2 T1 r2 ⟨fun b o e f x=>k2.keep b o (k1.keep b o e f x) f ?_,fun b o e f x=>?_,fun b o e=>?_⟩ n1)
 . simp only [List.mem_singleton];rintro rfl;rw [n1] at e;cases e
 . obtain ⟨s1,e1⟩:=k1.slot b o e f x;obtain ⟨s2,e2⟩:=k2.slot b _ e1 f (by
     simp only [List.mem_singleton];rintro rfl;rw [n1] at e;cases e)
   exact ⟨s2,e2⟩
 . obtain ⟨o1,e1⟩:=k1.there b o e;exact k2.there b o1 e1
theorem P0 (hfr:A.frames=some (env::outer)) (hl:s.heap.FunFrames base (env::outer)) (hf:env.frame=some L) (r:Err s.heap ea T cls od .none)
   (h:∀ h' T',Err h' ea T' cls od .none->Kept (frs (env::outer)) [ea,T] s.heap h'->s.heap.get? T'=none->Q () { s with heap:=h' }):wpAny M A (leaving env (.ref ea)) Q E s:=by
 unfold leaving;refine wpAny_bind (Jg hfr hl hf r fun h1 T1 r1 k1 n1=>y0 (fs:=frs (env::outer)) (s:={ s with heap:=h1 }) r1 fun h2 r2 k2=>h h2 T1 r2 ⟨fun b o e f x=>k2.keep b o (k1.keep b o e f x) f ?_,fun b o e f x=>?_,fun b o e=>?_⟩ n1)
 . simp only [List.mem_singleton];rintro rfl;rw [n1] at e;cases e
 . obtain ⟨s1,e1⟩:=k1.slot b o e f x;obtain ⟨s2,e2⟩:=k2.slot b _ e1 f (by
     simp only [List.mem_singleton];rintro rfl;rw [n1] at e;cases e)
   exact ⟨s2,e2⟩
 . obtain ⟨o1,e1⟩:=k1.there b o e;exact k2.there b o1 e1
end
def CXe (P:Program) (w:World):CXT:=fun outer H s E e s'=>∃ (ea T:Addr) (cls:Value) (od:Option Addr) (H':Hp),e=.ref ea/\s'.os=s.os/\AllBare s'.gens/\Un (frs outer) [] H H' s.heap s'.heap/\HOk P w H' s'.heap /\
 H' ea=none/\H' T=none/\s.heap.get? ea=none/\s.heap.get? T=none/\Err s'.heap ea T cls od .none/\E cls od H'
theorem aL {P:Program} {w:World}:aV (CXe P w):=fun outer H s e s' h=>by
 obtain ⟨_,_,_,_,_,_,_,_,_,_,_,_,_,_,_,z⟩:=h;exact z
theorem uc {P:Program} {w:World} {H:Hp} {h h':Heap} {fs xs:List Addr} (x:HOk P w H h) (k:Kept fs xs h h') (f:∀ b∈fs,H b=none) (u:∀ b∈xs,H b=none):HOk P w H h':=fun a o e=>by
 refine (x a o e).stay (fun b ob hb q=>k.keep b ob q ?_ ?_) (fun _ q=>q) fun _ _ q=>q
 . intro z;rcases hb with rfl|hb
   . rw [f _ z] at e;cases e
   . rw [f _ z] at hb;cases hb
 . intro z;rcases hb with rfl|hb
   . rw [u _ z] at e;cases e
   . rw [u _ z] at hb;cases hb
theorem xb {P:Program} {w:World} {H:Hp} {h:Heap} {b:Addr} (x:HOk P w H h) (n:h.get? b=none):H b=none:=by
 cases q:H b with
 | none=>rfl
 | some o =>
   have lt:=x.lt q;cases z:h.get? b with
   | some o'=>rw [z] at n;cases n
   | none =>
     exfalso
     have:=(x b o q);cases o with
     | lst xs=>obtain ⟨_,_,_,_,e⟩:=this;rw [n] at e;cases e
     | tup xs=>obtain ⟨_,_,_,ob,e,_⟩:=this;rw [n] at e;cases e
     | dK kvs=>obtain ⟨_,_,_,_,ob,_,_,e,_⟩:=this;rw [n] at e;cases e
     | dT kvs=>obtain ⟨_,_,_,_,ob,_,_,e,_⟩:=this;rw [n] at e;cases e
     | set S m=>obtain ⟨ob,_,_,_,e,_⟩:=this;rw [n] at e;cases e
     | ins C dx fs=>obtain ⟨_,_,_,e,_⟩:=this;rw [n] at e;cases e
     | own y=>obtain ⟨_,e⟩:=this;rw [n] at e;cases e
     | xd fs=>obtain ⟨_,⟨_,_,_,e,_⟩,_⟩:=this;rw [n] at e;cases e
     | rng lo hi=>obtain ⟨_,_,_,e⟩:=this;rw [n] at e;cases e
     | frz ob u=>obtain ⟨e,_⟩:=this;rw [n] at e;cases e
     | tbl ps=>have e:h.get? b=some _:=this;rw [n] at e;cases e
     | met f y=>have e:h.get? b=some _:=this;rw [n] at e;cases e
     | ext φ=>obtain ⟨_,⟨_,e⟩,_⟩:=this;rw [n] at e;cases e
section
variable {P:Program} {w:World} {K:PySem.W.Frag} {mg:Str->Option Value} {base:Heap} {N:List Str} {qual:Str} {scope:Scope} {f:Addr} {cd:Value} {A:Around} {outer:List Env} {s:Shared} {H:Hp} {E:XK}
theorem Ae {CX:CXT} {pins:List (Addr × Obj)} {σ:St} {H':Hp} {s':Shared} {h':Heap} {xs:List Addr} (J:Inv (lg CX P w K mg base N qual scope f cd A outer s H E) pins σ H' s') (k:Kept (frs (envOfC qual scope s.heap.objs.size f cd::outer)) xs s'.heap h') (nx:∀ b∈xs,s.heap.get? b=none) :
   Un (frs outer) [] H H' s.heap h':=by
 have b0:Un (frs outer) [] H H' s.heap s'.heap:=J.base;have nl:∀ b o,s.heap.get? b=some o->b ∉ xs:=fun b o e z=>by rw [nx b z] at e;cases e
 have nf:∀ b o,s.heap.get? b=some o->b ∉ frs outer->b ∉ frs (envOfC qual scope s.heap.objs.size f cd::outer):=fun b o e z m=>by
   unfold frs at m z;rw [List.filterMap_cons] at m;have:(envOfC qual scope s.heap.objs.size f cd).frame=some s.heap.objs.size:=rfl;rw [this] at m;rcases List.mem_cons.mp m with m|m
   . exact absurd (Heap.lt_size e) (by rw [m];exact Nat.lt_irrefl _)
   . exact z m
 refine ⟨fun b o e n hf hx=>k.keep b o (b0.keep b o e n hf hx) (nf b o e hf) (nl b o e),fun b o e n hf hx=>?_,b0.free,fun b o e hx=>?_,b0.tups,b0.frzs,b0.tbls⟩
 . obtain ⟨sl,e1⟩:=b0.slot b o e n hf hx;by_cases m:b∈frs (envOfC qual scope s.heap.objs.size f cd::outer)
   . obtain ⟨s2,e2⟩:=k.slot b _ e1 m (nl b o e);exact ⟨s2,e2⟩
   . exact ⟨sl,k.keep b _ e1 m (nl b o e)⟩
 . obtain ⟨o1,e1⟩:=b0.there b o e hx;exact k.there b o1 e1
theorem kU {CX:CXT} {pins:List (Addr × Obj)} {σ:St} {H':Hp} {s':Shared} (J:Inv (lg CX P w K mg base N qual scope f cd A outer s H E) pins σ H' s') {b:Addr} (n:s'.heap.get? b=none):s.heap.get? b=none:=by
 cases q:s.heap.get? b with
 | none=>rfl
 | some o =>
   have b0:Un (frs outer) [] H H' s.heap s'.heap:=J.base;obtain ⟨o',e⟩:=b0.there b o q (by simp);rw [n] at e;cases e
theorem bT:nu (CXe P w) (lg (CXe P w) P w K mg base N qual scope f cd A outer s H E) E:=by
 intro pins σ H1 s1 e s' I h;obtain ⟨ea,T,cls,od,H',rfl,os,bare,un,hok,n1,n2,f1,f2,er,q⟩:=h;have J:=I.call' (ch:=[]) os un hok bare (by simp);refine P0 (base:=base) J.ok.frames J.stack rfl er fun h' T' er' k nT=>?_;have fr:∀ b∈frs (envOfC qual scope s.heap.objs.size f cd::outer),H' b=none:=J.stkFree;refine ⟨ea,T',cls,od,H',rfl,J.os,J.bare,Ae J k ?_,uc hok k fr ?_,n1,xb hok nT,kU I f1,kU J nT,er',q⟩
 . intro b hb;simp only [List.mem_cons,List.not_mem_nil,or_false] at hb;rcases hb with rfl|rfl
   . exact kU I f1
   . exact kU I f2
 . intro b hb;simp only [List.mem_cons,List.not_mem_nil,or_false] at hb;rcases hb with rfl|rfl
   . exact n1
   . exact n2
end
def MZ (X:Cx) (E:XK):Prop:=∀ (pins:List (Addr × Obj)) (σ:St) (H:Hp) (s:Shared) (ea:Addr) (cls:Value) (od:Option Addr) (h':Heap) (tk:Nat),Inv X pins σ H s->(∀ b o,s.heap.get? b=some o->h'.get? b=some o)->s.heap.get? ea=none->jQ h' ea cls od .none->E cls od H ->
 X.xe (.ref ea) { s with heap:=h',toks:=tk }
section
variable {P:Program} {w:World} {K:PySem.W.Frag} {mg:Str->Option Value} {base:Heap} {N:List Str} {qual:Str} {scope:Scope} {f:Addr} {cd:Value} {A:Around} {outer:List Env} {s:Shared} {H:Hp} {E:XK}
theorem tP:MZ (lg (CXe P w) P w K mg base N qual scope f cd A outer s H E) E:=by
 intro pins σ H1 s1 ea cls od h' tk I kp nw er q;have J:=I.kept (t':=tk) kp;refine Dx (base:=base) J.ok.frames J.stack rfl er fun h2 T' er' k nT=>?_;have fr:∀ b∈frs (envOfC qual scope s.heap.objs.size f cd::outer),H1 b=none:=J.stkFree;refine ⟨ea,T',cls,od,H1,rfl,J.os,J.bare,Ae J k ?_,uc J.hok k fr ?_,xb I.hok nw,xb J.hok nT,kU I nw,kU J nT,er',q⟩
 . intro b hb;rw [List.mem_singleton.mp hb];exact kU I nw
 . intro b hb;rw [List.mem_singleton.mp hb];exact xb I.hok nw
end
end L2
set_option Elab.async false
set_option linter.all false
set_option maxRecDepth 100000
namespace L2
open PySem PySem.Spec PyProof.Rows
def An (K:PySem.W.Frag) (C:Addr):Prop:=∃ (nm qn:Str) (N:Addr) (bs bm:List Value) (hdct:Bool) (sn:List Str) (sub:List Value) (ab:Bool) (col:Option Bool) (dd:Option Addr) (k0 k1 k2 k3 k5:Option Value),
   K.lookup C=some (excClassObj nm qn C N bs bm hdct sn sub ab col dd k0 k1 k2 k3 k5 "ValueError.__new__")/\PySem.W.nsOkIn K N=true/\PySem.W.nsIn K N "__init__"=some none/\PySem.W.tailIn K bmV bm=true
theorem tE {K:PySem.W.Frag} {C:Addr} {o:Obj} (nm qn:Str) (N:Addr) (bs bm:List Value) (hdct:Bool) (sn:List Str) (sub:List Value) (ab:Bool) (col:Option Bool) (dd:Option Addr) (k0 k1 k2 k3 k5:Option Value) (l:K.lookup C=some o)
   (e:o=excClassObj nm qn C N bs bm hdct sn sub ab col dd k0 k1 k2 k3 k5 "ValueError.__new__") (a:PySem.W.nsOkIn K N=true) (b:PySem.W.nsIn K N "__init__"=some none) (c:PySem.W.tailIn K bmV bm=true):An K C:=by
 subst e;exact ⟨_,_,_,_,_,_,_,_,_,_,_,_,_,_,_,_,l,a,b,c⟩
def Nh (C:Addr) (E:XK) (t:TA):TS:=fun _ σ H=>t σ H fun vs H1=>vs.length<=sizeLine/\E (.ref C) none H1
section
variable {X:Cx} {x:Str} {np cpos pos:Pos} {e0:Expr} {es:List Expr} {t:TA} {C:Addr} {E:XK}
theorem pQ (q:An X.K C) (hc:X.calm=true) (hR:MZ X E) (hg:Gl X x) (hm:X.mg x=some (.ref C)) (ha:PA X (e0::es) t) (hdb:(x == ("__debug__":Str))=false:=by decide)
   (he:starEach (e0::es) X.env=(false,eval e0 X.env)::starEach es X.env:=by rfl) (hpl:(backTo cpos (starEach es X.env)).any (·.1)=false:=by rfl):PS X (.Raise (some (.Call (.Name x np) (e0::es) [] cpos)) none pos) (Nh C E t):=by
 intro pins s σ H D I h;obtain ⟨nm,qn,N,bs,bm,hdct,sn,sub,ab,col,dd,k0,k1,k2,k3,k5,ho,z5,z6,z4⟩:=q;have B:=I.mod.kin;have T0:=PySem.W.tail_of_in B z4;have N0:X.base.Ns N (X.base.nsMap N):=.of_isNs (PySem.W.isNs_of_in B z5);have hp:(backTo cpos (starEach (e0::es) X.env)).any (·.1)=false:=by
   rw [he];show (false || (backTo cpos (starEach es X.env)).any (·.1))=false;rw [hpl]
   rfl
 refine wpAny_Raise_call_subT (C:=C) (nm:=nm) (q:=qn) (N:=N) (bs:=bs) (bm:=bm) (hdct:=hdct) (sn:=sn) (sub:=sub) (ab:=ab) (col:=col) (dd:=dd) (k0:=k0) (k1:=k1) (k2:=k2) (k3:=k3) (k5:=k5) PySem.F.excBase_ValueError
   (T0.hasType (by decide +kernel)) (I.ok.hd hc) hp (PySem.W.nsMap_none_of_in B z5 z6) (jG I hg hm ⟨rfl,?_⟩ hdb)
 have g:=ha cpos pins s σ H _ I h;rw [he] at g ⊢;refine Calls.evalArgs_plain (thn g fun us s1 ⟨vs,H1,I1,r1,q1⟩=>⟨rfl,by show us.length<=_;rw [<- r1.length];exact q1.1,I1.bk _ _ (B _ _ ho),N0.keeps I1.bk,T0.keeps I1.bk,fun h' ea m=>?_⟩);obtain ⟨tt,m1,_,_⟩:=m.there;exact hR pins σ H1 s1 ea (.ref C) none h' s1.toks I1 m.keeps m.new ⟨_,_,m1,rfl,rfl,rfl,rfl,rfl⟩ q1.2
end
def XP (CX:CXT) (X:Cx) (pins:List (Addr × Obj)) (σ:St) (E:XK) (e:Value) (s':Shared):Prop:=∃ H s,Inv X pins σ H s/\CX X.stack H s E e s'
def PEx (CX:CXT) (X:Cx) (e:Expr) (t:XK->TE):Prop :=
 ∀ (E:XK) (pins:List (Addr × Obj)) (s:Shared) (σ:St) (H:Hp) (Q:VK),Inv X pins σ H s->t E σ H Q->wpAny (model X.prog X.w) X.A (eval e X.env) (EP X pins σ Q) (XP CX X pins σ E) s
abbrev XS (CX:CXT) (X:Cx) (pins:List (Addr × Obj)) (EK:St->XK) (e:Value) (s':Shared):Prop:=∃ σ,XP CX X pins σ (EK σ) e s'
def PSx (CX:CXT) (X:Cx) (st:Stmt) (t:(St->XK)->TS):Prop :=
 ∀ (EK:St->XK) (pins:List (Addr × Obj)) (s:Shared) (σ:St) (H:Hp) (D:Ends),Inv X pins σ H s->t EK D σ H->wpAny (model X.prog X.w) X.A (exec st X.env) (SP X pins D) (XS CX X pins EK) s
def TL (CX:CXT) (X:Cx) (st:List Stmt) (t:(St->XK)->TS):Prop :=
 ∀ (EK:St->XK) (pins:List (Addr × Obj)) (s:Shared) (σ:St) (H:Hp) (D:Ends),Inv X pins σ H s->t EK D σ H->wpAny (model X.prog X.w) X.A (execs st X.env) (SP X pins D) (XS CX X pins EK) s
section
variable {CX:CXT} {X:Cx} {k:Nat} {f C:Addr} {fd:FuncData} {ps:List Str} {sp:Sp} {dvs:List V} {ds:List Value} {x:Str} {p pos:Pos} {e:Expr} {es:List Expr} {te:TE} {t:TA} {st:Stmt} {sts:List Stmt} {ts:TS} {tx ux:(St->XK)->TS} {ex:XK->TE}
theorem Rl (F:FnOk X.prog X.w X.K X.mg X.base CX k f fd ps sp) (hr:Room k X.A) (hg:Gl X x) (hm:X.mg x=some (.ref f)) (hk:PySem.W.keepIn X.K (.ref f)=true) (hb:Binds X.K fd ps ds) (hd:Vals dvs ds)
   (ha:PA X.nox (e::es) t) (hdb:(x == ("__debug__":Str))=false:=by decide) (he:starEach (e::es) X.env=(false,eval e X.env)::starEach es X.env:=by rfl) (hpl:(backTo pos (starEach es X.env)).any (·.1)=false:=by rfl) :
   PEx CX X (.Call (.Name x p) (e::es) [] pos) (fun E=>BI sp dvs E t):=by
 intro E pins s σ H Q I h;refine wpAny_Call_Name_kw (jG I hg hm ?_ hdb);refine PySem.W.callWith_K (h₀:=X.base) I.ok.mod.kin hk (wpAny_mono (ha pos pins s σ H _ (I.wish _) h) (fun us s1 ⟨vs,H1,I1,r,q⟩=>⟨I1.unwish.kIn,?_⟩) fun _ _ z=>False.elim z) he hpl;have J:=I1.unwish;have r2:Vals (vs++dvs) (us++ds):=r.append hd;have hl:(us++ds).length=ps.length:=by rw [<- r2.length];exact F.len _ _ _ _ q
 refine wpAny_call (codeAny_mono (F.run X.A X.stack s1 H1 ⟨us,[]⟩ (us++ds) (vs++dvs) Q E hr J.env0 (hb s1 us J.kIn hl) r2 q) fun r s' hq=>?_);cases r with
 | error e=>exact ⟨H1,s1,J,hq⟩
 | ok fl =>
   cases fl with
   | ret u=>exact J.after hq
   | next=>exact False.elim hq
   | brk=>exact False.elim hq
   | cont=>exact False.elim hq
theorem RG (he:PEx CX X e ex) (hs:swapsWith e none pos.line X.env=pure false:=by rfl):PSx CX X (.Expr e pos) (fun EK D σ H=>ex (EK σ) σ H fun _ H1=>D.nx σ H1):=by
 intro EK pins s σ H D I h;exact wpAny_Expr_any (wpAny_mono (he (EK σ) pins s σ H _ I h) (fun v s1 ⟨x,H1,I1,r1,q1⟩=>⟨σ,H1,I1,q1⟩) fun e s' z=>⟨σ,z⟩) I.quiet hs
theorem P6 (h1:PSx CX X st tx):TL CX X [st] tx:=by
 intro EK pins s σ H D I h;refine wpAny_execs_cons (thn (h1 EK pins s σ H D I h) fun f s1 q=>?_);cases f with
 | next=>exact wpAny_execs_nil q
 | ret v=>exact q
 | brk=>exact q
 | cont=>exact q
end
end L2
set_option Elab.async false
set_option linter.all false
set_option maxRecDepth 100000
namespace L2
open PySem PySem.Spec PyProof.Rows
abbrev Cx.held (X:Cx) (e:Value):Cx:={ X with A:=X.A.mark (some e),calm:=false }
theorem Cx.Ok.held {X:Cx} (ok:X.Ok) (e:Value):(X.held e).Ok :=
 ⟨ok.mod,ok.kind,ok.glob,ok.blt,ok.above,ok.inj,ok.has,ok.cab,(fun z=>nomatch z),ok.frames,ok.stk,ok.exf,ok.bs,ok.bsz,ok.noex,ok.exfs,ok.funs,ok.frf⟩
theorem Cx.Ok.unheld {X:Cx} {e:Value} (ok:(X.held e).Ok) (hd:X.calm=true->X.A.handled=none):X.Ok :=
 ⟨ok.mod,ok.kind,ok.glob,ok.blt,ok.above,ok.inj,ok.has,ok.cab,hd,ok.frames,ok.stk,ok.exf,ok.bs,ok.bsz,ok.noex,ok.exfs,ok.funs,ok.frf⟩
section
variable {X:Cx} {pins:List (Addr × Obj)} {σ:St} {H:Hp} {s:Shared}
theorem Inv.held (I:Inv X pins σ H s) (e:Value):Inv (X.held e) pins σ H s:=⟨I.ok.held e,I.os,I.bare,I.base,I.loc,I.cell,I.free,I.freeC,I.pin,I.hok,I.len⟩
theorem Inv.unheld {e:Value} (I:Inv (X.held e) pins σ H s) (hd:X.calm=true->X.A.handled=none):Inv X pins σ H s:=⟨I.ok.unheld hd,I.os,I.bare,I.base,I.loc,I.cell,I.free,I.freeC,I.pin,I.hok,I.len⟩
theorem Inv.moved {xs:List Addr} {h':Heap} {tk:Nat} (I:Inv X pins σ H s) (k:Kept (frs X.stack) xs s.heap h') (nx:∀ b∈xs,H b=none/\X.s₀.heap.get? b=none/\b≠X.env.locals/\(∀ x c,X.env.cells.lookup x=some c->c≠b)/\∀ p∈X.pn++pins,p.1≠b) :
   Inv X pins σ H { s with heap:=h',toks:=tk }:=by
 have old:∀ b o,X.s₀.heap.get? b=some o->b ∉ xs:=fun b o e z=>by rw [(nx b z).2.1] at e;cases e
 have nel:∀ b o,X.s₀.heap.get? b=some o->b≠X.env.locals:=fun b o e z=>absurd (Nat.lt_of_lt_of_le (Heap.lt_size e) I.ok.above) (by rw [z];exact Nat.lt_irrefl _);have out:∀ b,b≠X.env.locals->b ∉ X.fs->b ∉ frs X.stack:=fun b h1 h2 z=>(List.mem_cons.mp (I.stkSub b z)).elim h1 h2;have any:∀ b o,s.heap.get? b=some o->b ∉ xs->∃ sl,h'.get? b=some { o with slots:=sl }:=fun b o e z=>by
   by_cases f:b∈frs X.stack
   . exact k.slot b o e f z
   . exact ⟨o.slots,k.keep b o e f z⟩
 have cells:∀ x c v,X.env.cells.lookup x=some c->s.heap.IsCell c v->h'.IsCell c v:=fun x c v e ⟨o,ho,hd⟩=>by
   obtain ⟨sl,q⟩:=any c o ho fun z=>(nx c z).2.2.2.1 x c e rfl;exact ⟨_,q,hd⟩
 refine ⟨I.ok,I.os,I.bare,⟨fun b o e n hf hx=>?_,fun b o e n hf hx=>?_,I.base.free,fun b o e hx=>?_,I.base.tups,I.base.frzs,I.base.tbls⟩,?_,fun x c e=>?_,I.free,I.freeC,fun p hp=>?_,uc I.hok k I.stkFree fun b hb=>(nx b hb).1,I.len⟩
 . exact k.keep b o (I.base.keep b o e n hf hx) (out b (nel b o e) hf) (old b o e)
 . obtain ⟨sl,e1⟩:=I.base.slot b o e n hf hx;obtain ⟨s2,e2⟩:=any b _ e1 (old b o e);exact ⟨s2,e2⟩
 . obtain ⟨o1,e1⟩:=I.base.there b o e hx;exact k.there b o1 e1
 . obtain ⟨m,⟨o,es,ep,ho,r⟩,l⟩:=I.loc;obtain ⟨sl,e1⟩:=any _ o ho fun z=>(nx _ z).2.2.1 rfl;refine ⟨m,⟨_,es,ep,e1,r⟩,fun i x v h1 h2 h3=>?_⟩;obtain ⟨u,r1,l1⟩:=l i x v h1 h2 h3;refine ⟨u,r1,?_⟩;rcases l1 with l1|⟨k1,c,e,z⟩
   . exact .inl l1
   . exact .inr ⟨k1,c,e,cells x c _ e z⟩
 . obtain ⟨v,z⟩:=I.cell x c e;exact ⟨v,cells x c v e z⟩
 . obtain ⟨e,n,ne,nf,d⟩:=I.pin p hp;exact ⟨k.keep p.1 p.2 e (out p.1 ne nf) fun z=>(nx p.1 z).2.2.2.2 p hp rfl,n,ne,nf,d⟩
theorem Inv.young (I:Inv X pins σ H s) {b:Addr} (n:s.heap.get? b=none):X.s₀.heap.get? b=none\/b∈X.ex:=by
 by_cases z:b∈X.ex
 . exact .inr z
 . refine .inl ?_;cases q:X.s₀.heap.get? b with
   | none=>rfl
   | some o =>
     obtain ⟨o',e⟩:=I.base.there b o q z;rw [n] at e;cases e
theorem Inv.apart (I:Inv X pins σ H s) {b:Addr} (n:s.heap.get? b=none):b≠X.env.locals/\(∀ x c,X.env.cells.lookup x=some c->c≠b)/\∀ p∈X.pn++pins,p.1≠b:=by
 refine ⟨?_,fun x c e z=>?_,fun p hp z=>?_⟩
 . rintro rfl;obtain ⟨m,⟨o,es,ep,ho,r⟩,_⟩:=I.loc;rw [n] at ho;cases ho
 . obtain ⟨v,o,ho,hd⟩:=I.cell x c e;rw [z,n] at ho;cases ho
 . obtain ⟨e,_⟩:=I.pin p hp;rw [z,n] at e;cases e
end
section
variable {K:PySem.W.Frag} {C C':Addr} {x:Addr} {ox:Obj} {od:Option Obj} {M:Model} {A:Around} {E:Value->Shared->Prop} {s:Shared} {b:Bool} {Q:Bool->Shared->Prop}
theorem HF (X:K.In s.heap) (hx:∃ o,s.heap.get? x=some o/\o.cls=.ref C) (c':XCls K C') (m:PySem.W.mroIn K C (.ref C')=some b) (h:Q b s):wpAny M A (excMatches (.ref x) (.ref C')) Q E s:=by
 obtain ⟨o,ho,hc⟩:=hx;obtain ⟨hh,g,dr,t,os⟩:=s;have L0:PySem.W.Looks M hh (typeOf (.ref x)) (.ref C):=hc ▸ (PySem.W.Looks.ld ho).andThen .now;have L1:=PySem.W.looks_mroIn (M:=M) X m;have L2:=PySem.W.looks_mroIn (M:=M) X c'.mb;have L3:=PySem.W.looks_typeIn (M:=M) X c'.ty;have L4:PySem.W.Looks M hh (isSubtype (.type "type") (.type "tuple")) false:=.of_pure tc_notTuple;obtain ⟨cd,e,_⟩:=PySem.W.any_some c'.hd;have L5:PySem.W.Looks M hh (isType (.ref C')) true:=by
   unfold PySem.W.clsIn at e;split at e
   . rename_i ho'
     intro A' Q' E' s' k q;unfold isType loadHead;exact wpAny_bind (wpAny_loadPart (k _ _ (X _ _ ho')) (wpAny_pure q))
   . cases e
 unfold excMatches isInstance isExcClass;cases b
 all_goals
   repeat lk
   exact h
end
end L2
set_option Elab.async false
set_option linter.all false
set_option maxRecDepth 100000
namespace L2
open PySem PySem.Spec PyProof.Rows
def ExO (ea:Addr) (cls:Value) (od:Option Addr):HO:=.ext fun h=>∃ oe vs,h.get? ea=some oe/\oe.cls=cls/\oe.dict=od/\oe.data=.fields vs/\vs[2]?=some .none
structure Loose (X:Cx) (pins:List (Addr × Obj)) (H:Hp) (b:Addr):Prop where
 un:H b=none
 new:X.s₀.heap.get? b=none
 loc:b≠X.env.locals
 cel:∀ x c,X.env.cells.lookup x=some c->c≠b
 pin:∀ p∈X.pn++pins,p.1≠b
theorem Loose.all {X:Cx} {pins:List (Addr × Obj)} {H:Hp} {b:Addr} (l:Loose X pins H b):H b=none/\X.s₀.heap.get? b=none/\b≠X.env.locals/\(∀ x c,X.env.cells.lookup x=some c->c≠b)/\∀ p∈X.pn++pins,p.1≠b:=⟨l.un,l.new,l.loc,l.cel,l.pin⟩
section
variable {X:Cx} {pins:List (Addr × Obj)} {σ:St} {H:Hp} {s:Shared}
theorem Inv.trackX {ea:Addr} {cls hd:Value} {od:Option Addr} (I:Inv X pins σ H s) (l:Loose X pins H ea) (e:jQ s.heap ea cls od hd):Inv X pins σ (upd H ea (ExO ea cls od)) s:=by
 obtain ⟨oe,vs,h1,h2,h3,h4,h5,h6⟩:=e;have ne:∀ b,b≠ea->upd H ea (ExO ea cls od) b=H b:=fun b z=>aq z;have nt:∀ b u,H b=some u->upd H ea (ExO ea cls od) b=some u:=fun b u z=>by rw [ne b (bi z l.un)];exact z
 refine ⟨I.ok,I.os,I.bare,⟨I.base.keep,I.base.slot,fun b o q n x=>?_,I.base.there,fun b xs q=>nt _ _ (I.base.tups b xs q),fun b o u q=>nt _ _ (I.base.frzs b o u q),fun b ps q=>?_⟩,I.loc,I.cell,?_,fun x c q=>?_,fun p hp=>?_,?_,I.len⟩
 . rw [ne b (by rintro rfl;rw [l.new] at q;cases q)];exact I.base.free b o q n x
 . obtain ⟨more,z⟩:=I.base.tbls b ps q;exact ⟨more,nt _ _ z⟩
 . rw [ne _ (Ne.symm l.loc)];exact I.free
 . rw [ne _ (l.cel x c q)];exact I.freeC x c q
 . obtain ⟨z1,z2,z3,z4,z5⟩:=I.pin p hp;exact ⟨z1,by rw [ne _ (l.pin p hp)];exact z2,z3,z4,z5⟩
 . intro b u q;by_cases z:b=ea
   . subst z;rw [ah] at q;cases q;refine ⟨⟨oe,vs,h1,h2,h3,h4,h6⟩,⟨oe,h1⟩,?_⟩;rintro g1 g2 ⟨o,v,a1,a2⟩ kk;exact ⟨o,v,kk _ a1,a2⟩
   . rw [ne b z] at q;exact (I.hok b u q).stay (fun _ _ _ r=>r) (fun c r=>nt _ _ r) fun c xs r=>nt _ _ r
theorem qH {M:Model} {A:Around} {E:Value->Shared->Prop} {n:Str} {i:Nat} {pos:Pos} {Q:Unit->Shared->Prop} (I:Inv X pins σ H s) (hN:X.N.Nodup) (hi:X.N[i]?=some n) (hl:X.env.scope.names.lookup n=some .local)
   (h:∀ s',Inv X pins (σ.set i none) H s'->Q () s'):wpAny M A (do bindName X.env n .none;unbindBehindTheSuite X.env n pos) Q E s:=by
 have hcls:(X.env.scope.kind == .class || (X.env.scope.kind == .module && X.env.locals != X.env.globals))=false:=by rw [I.ok.kind];rfl
 have hiσ:i<σ.length:=by rw [I.len];exact (List.getElem?_eq_some_iff.mp hi).1
 refine wpAny_bind (wpAny_bindName (mz (v:=V.non) I hN hi (.inl hl) rfl (fun s1 I1=>?_) (.inr hl)));obtain ⟨m,hn,l⟩:=id I1.loc;have hv:m n=some Value.none:=by
   obtain ⟨u,r,q⟩:=l i n .non hi (by rw [List.getElem?_set_self hiσ]) (.inl hl);cases (show u=Value.none from r);rcases q with ⟨_,q⟩|⟨q,_⟩
   . exact q
   . rcases q with q|q <;> (have z:X.env.scope.names.lookup n=_:=q;rw [hl] at z;cases z)
 unfold unbindBehindTheSuite;refine wpAny_onRaise (wpAny_unbindName_local hl hn hv hcls fun h' u hn' hs=>h _ ?_);have cne:=I1.cne;have far:∀ b o,X.s₀.heap.get? b=some o->b≠X.env.locals:=fun b o e=>Nat.ne_of_lt (Nat.lt_of_lt_of_le (Heap.lt_size e) I1.ok.above);have at_:∀ b,b≠X.env.locals->h'.get? b=s1.heap.get? b:=fun b z=>hs.2 b z;refine ⟨I1.ok,I1.os,I1.bare,⟨fun b o e n hb hx=>?_,fun b o e n hb hx=>?_,I1.base.free,fun b o e hx=>?_,I1.base.tups,I1.base.frzs,I1.base.tbls⟩,⟨_,hn',fun j y v e1 e2 e3=>?_⟩,fun y c e=>?_,I1.free,I1.freeC,fun p hp=>?_,fun b ob e=>?_,by simpa using I.len⟩
 . exact (at_ b (far b o e)).trans (I1.base.keep b o e n hb hx)
 . obtain ⟨sl,q⟩:=I1.base.slot b o e n hb hx;exact ⟨sl,(at_ b (far b o e)).trans q⟩
 . obtain ⟨o',q⟩:=I1.base.there b o e hx;exact ⟨o',(at_ b (far b o e)).trans q⟩
 . by_cases hj:j=i
   . subst hj;rw [List.getElem?_set_self hiσ] at e2;cases e2
   . have hy:y≠n:=fun z=>hj (Am hN e1 (z ▸ hi));rw [List.getElem?_set_ne (Ne.symm hj)] at e2;obtain ⟨u',r',q⟩:=l j y v e1 (by rw [List.getElem?_set_ne (Ne.symm hj)];exact e2) e3;refine ⟨u',r',?_⟩;rcases q with ⟨k,z⟩|⟨k,c,z1,z2⟩
     . exact .inl ⟨k,by simp [hy,z]⟩
     . exact .inr ⟨k,c,z1,z2.sameBut hs (cne y c z1)⟩
 . obtain ⟨v,z⟩:=I1.cell y c e;exact ⟨v,z.sameBut hs (cne y c e)⟩
 . obtain ⟨z1,z2,z3,z4,z5⟩:=I1.pin p hp;exact ⟨(at_ p.1 z3).trans z1,z2,z3,z4,z5⟩
 . refine (I1.hok b ob e).stay (fun c w hc q=>(at_ c ?_).trans q) (fun _ q=>q) fun _ _ q=>q;rintro rfl;rcases hc with rfl|hc
   . rw [I1.free] at e;cases e
   . rw [I1.free] at hc;cases hc
end
abbrev TH:=Ends->St->Value->Option Addr->Hp->Prop
def PHs (X:Cx) (hs:List ExceptHandler) (th:TH):Prop:=∀ (pins:List (Addr × Obj)) (s:Shared) (σ:St) (H:Hp) (D:Ends) (ea T:Addr) (cls:Value) (od:Option Addr),Inv X pins σ H s->Err s.heap ea T cls od .none->Loose X pins H ea->Loose X pins H T ->
 th D σ cls od H->wpAny (model X.prog X.w) X.A (handleBy (.ref ea) X.env hs) (SP X pins D) X.xe s
def Ends.less (D:Ends) (i:Nat):Ends:={ nx:=fun σ H=>D.nx (σ.set i none) H,rt:=D.rt,bk:=fun σ H=>D.bk (σ.set i none) H,ct:=fun σ H=>D.ct (σ.set i none) H }
def RZ (K:PySem.W.Frag) (C':Addr) (i:Nat) (ts:TS) (tr:TH):TH:=fun D σ cls od H=>∃ C b,cls=.ref C/\PySem.W.mroIn K C (.ref C')=some b /\
 if b=true then ∀ ea,H ea=none->ts (D.less i) (σ.set i (some (.ref ea))) (upd H ea (ExO ea cls od)) else tr D σ cls od H
def tNoHand:TH:=fun _ _ _ _ _=>False
section
variable {X:Cx} {x n:Str} {np pos:Pos} {i:Nat} {C':Addr} {b0:Stmt} {suite:List Stmt} {cL:List ExceptHandler} {ts:TS} {tr:TH}
theorem Ui:PHs X [] tNoHand:=fun _ _ _ _ _ _ _ _ _ _ _ _ _ h=>h.elim
theorem Uo (c':XCls X.K C') (hg:Gl X x) (hm:X.mg x=some (.ref C')) (hN:X.N.Nodup) (hi:X.N[i]?=some n) (hl:X.env.scope.names.lookup n=some .local) (hb:∀ e,PSs (X.held e).nox (b0::suite) ts) (hr:PHs X cL tr) (hdb:(x == ("__debug__":Str))=false:=by decide) :
   PHs X (.ExceptHandler (some (.Name x np)) (some n) (b0::suite) pos::cL) (RZ X.K C' i ts tr):=by
 intro pins s σ H D ea T cls od I er le lt h;obtain ⟨C,b,rfl,m,q⟩:=h;refine wpAny_handleBy_cons (codeAny_handlers_test (jG (X:=X.held (.ref ea)) (I.held _) hg hm ?_ hdb)) (by intro z;cases z);obtain ⟨oe,vs,h1,h2,h3,h4,h5,h6⟩:=id er.e;refine HF I.kIn ⟨oe,h1,h2⟩ c' m ?_;cases b with
 | false=>exact hr pins s σ H D ea T _ od I er le lt (by simpa using q)
 | true =>
   rw [if_pos rfl] at q;refine codeAny_handlers_suite_as (y0 (fs:=frs X.stack) er fun h' er' k=>?_);have I1:Inv X pins σ H { s with heap:=h' }:=I.moved (tk:=s.toks) k fun b hb=>by rw [List.mem_singleton.mp hb];exact lt.all
   have I2:=(I1.trackX le er'.e).held (.ref ea);refine mz (X:=X.held (.ref ea)) (v:=V.ref ea) I2 hN hi (.inl hl) rfl (fun s2 I3=>?_) (.inr hl);refine wpAny_mono (hb (.ref ea) pins s2 _ _ _ (I3.wish _) (q ea le.un)) (fun f s3 z=>?_) fun _ _ z=>False.elim z;have back:∀ {σ':St} {H':Hp},Inv (X.held (.ref ea)).nox pins σ' H' s3->Inv X pins σ' H' s3:=fun J=>J.unwish.unheld I.ok.hd;dsimp only;cases f with
   | next =>
     obtain ⟨σ',H',J,z⟩:=z;exact qH (back J) hN hi hl fun s4 J4=>⟨_,H',J4,z⟩
   | brk =>
     obtain ⟨σ',H',J,z⟩:=z;exact qH (back J) hN hi hl fun s4 J4=>⟨_,H',J4,z⟩
   | cont =>
     obtain ⟨σ',H',J,z⟩:=z;exact qH (back J) hN hi hl fun s4 J4=>⟨_,H',J4,z⟩
   | ret u =>
     obtain ⟨v,σ',H',J,rv,z⟩:=z;exact qH (back J) hN hi hl fun s4 J4=>⟨v,_,H',J4,rv,z⟩
def Ua (tb:(St->XK)->TS) (th:TH):TS:=fun D σ H=>tb (fun σ' cls od H'=>th D σ' cls od H') D σ H
theorem Uf {body:List Stmt} {h0:ExceptHandler} {hs:List ExceptHandler} {tb:(St->XK)->TS} {th:TH} (hx:X.ex=[]) (hst:X.stack=X.env::X.outer) (hf:X.env.frame=some X.env.locals) (hb:TL (CXe X.prog X.w) X body tb) (hh:PHs X (h0::hs) th) :
   PS X (.Try body (h0::hs) [] [] pos) (Ua tb th):=by
 intro pins s σ H D I h;refine wpAny_Try_except (wpAny_mono (hb _ pins s σ H D I h) (fun f s1 q=>?_) fun e s' z=>?_)
 . cases f with
   | next=>exact wpAny_execs_nil q
   | ret v=>exact q
   | brk=>exact q
   | cont=>exact q
 . obtain ⟨σ1,H1,s1,I1,ea,T,cls,od,H',rfl,os,bare,un,hok,n1,n2,f1,f2,er,q⟩:=z;have J:=I1.call' (ch:=[]) os un hok bare (by simp);have fresh:∀ b,s1.heap.get? b=none->H' b=none->Loose X pins H' b:=fun b z u=>by
     obtain ⟨a1,a2,a3⟩:=I1.apart z;refine ⟨u,?_,a1,a2,a3⟩;rcases I1.young z with y|y
     . exact y
     . rw [hx] at y;cases y
   have le:=fresh ea f1 n1;have lt:=fresh T f2 n2;have fr:=J.ok.frames;have st:=J.stack;rw [hst] at fr st;refine Jg fr st hf er fun h2 T2 er2 k2 nT2=>?_;rw [<- hst] at k2;have J2:Inv X pins σ1 H' { s' with heap:=h2 }:=J.moved (tk:=s'.toks) k2 fun b hb=>by
     simp only [List.mem_cons,List.not_mem_nil,or_false] at hb;rcases hb with rfl|rfl
     . exact le.all
     . exact lt.all
   have lt2:Loose X pins H' T2:=by
     obtain ⟨a1,a2,a3⟩:=J.apart nT2;refine ⟨xb hok nT2,?_,a1,a2,a3⟩;rcases J.young nT2 with y|y
     . exact y
     . rw [hx] at y;cases y
   refine y0 (fs:=frs X.stack) (s:={ s' with heap:=h2 }) er2 fun h3 er3 k3=>?_;have J3:Inv X pins σ1 H' { s' with heap:=h3 }:=J2.moved (tk:=s'.toks) k3 fun b hb=>by rw [List.mem_singleton.mp hb];exact lt2.all
   exact hh pins _ σ1 H' D ea T2 cls od J3 er3 le lt2 q
end
end L2
set_option Elab.async false
set_option linter.all false
set_option maxRecDepth 100000
namespace L2
open PySem PySem.Spec PyProof.Rows
structure RoomH (k:Nat) (A:Around):Prop where
 dp:A.depth+3*k+5<recursionLimit
 un:A.units+16*k+200<cLine
theorem Room.h {k:Nat} {A:Around} (r:Room k A):RoomH k A:=⟨r.dp,r.un⟩
theorem RoomH.mark {k:Nat} {A:Around} (r:RoomH k A) (e:Option Value):RoomH k (A.mark e):=⟨r.dp,r.un⟩
theorem RoomH.deeper {k:Nat} {A:Around} (r:RoomH (k+1) A) (env:Env):RoomH k (A.deeper env) :=
 ⟨by have:=r.dp;show A.depth+1+3*k+5<_;omega,by have:=r.un;show A.units+3+16*k+200<_;omega⟩
structure FnOkH (P:Program) (w:World) (K:PySem.W.Frag) (mg:Str->Option Value) (base:Heap) (k:Nat) (f:Addr) (fd:FuncData) (ps:List Str) (sp:Sp):Prop where
 len:∀ vs H Q E,sp vs H Q E->vs.length=ps.length
 run:∀ (A:Around) (outer:List Env) (s:Shared) (H:Hp) (args:Args) (us:List Value) (vs:List V) (Q:VK) (E:XK),RoomH k A->Env0 P w K mg base A outer s H->BindsTo s fd args (ps.zip us)->Vals vs us->sp vs H Q E ->
   codeAny (model P w) A (.call (.ref f) args) (CR CX0 outer P w H s Q E) s
section
variable {P:Program} {w:World} {K:PySem.W.Frag} {mg:Str->Option Value} {base:Heap}
abbrev cxH (P:Program) (w:World) (K:PySem.W.Frag) (mg:Str->Option Value) (base:Heap) (N:List Str) (qual:Str) (scope:Scope) (f:Addr) (cd:Value) (A:Around) (outer:List Env) (s:Shared) (H:Hp):Cx:={ lg CX0 P w K mg base N qual scope f cd A outer s H E0 with calm:=false,xe:=fun _ _=>False }
theorem Fun.okH {x qual:Str} {st:Stmt} {f:Addr} {fd:FuncData} {N ps:List Str} {k:Nat} {sp:Sp} (F:Fun K x qual st f fd) (S:FnScope N ps (aa st)) (len:∀ vs H Q E,sp vs H Q E->vs.length=ps.length)
   (hbody:∀ (cdv:Value) (A:Around) (outer:List Env) (s:Shared) (H:Hp) (vs:List V) (Q:VK) (E:XK),RoomH k (A.deeper (envOfC qual (aa st) s.heap.objs.size f cdv))->sp vs H Q E ->
     ∃ t,PSs (cxH P w K mg base N qual (aa st) f cdv A outer s H) (aw st) t/\t { nx:=fun _ H'=>Q .non H',rt:=Q } (start N vs) H):FnOkH P w K mg base (k+1) f fd ps sp:=by
 obtain ⟨oc,od,kV,doc,pm,an,cdv,ct,osl,rfl,lk,hcd⟩:=F.ex;refine ⟨len,fun A outer s H args us vs Q E hr e0 hb r hsp=>?_⟩;have hl:=len _ _ _ _ hsp;have KX:K.In s.heap:=e0.mod.kin.keeps fun b o e=>(e0.bs b o e).1;have lim:s.heap.NoLimit:=e0.mod.nolimit.keeps fun b o e=>(e0.bs b o e).1;have kinds:∀ y∈ps.zip us,(aa st).names.lookup y.1=some .local\/((aa st).names.lookup y.1=some .cell/\((cellsFrom (s.heap.objs.size+1) (aa st).names []).lookup y.1).isSome=true):=fun ⟨n,v⟩ hy=>by
   rcases S.par n (List.of_mem_zip hy).1 with q|q
   . exact .inl q
   . exact .inr ⟨q,PySem.W.cellsFrom_some _ _ _ (.inl q)⟩
 refine codeAny_call_function (by have:=hr.dp;omega) (KX _ _ lk) rfl S.co S.gen rfl (PySem.W.codeRec_of KX hcd) (hb _ _ _ _ ?_);refine wpAny_newFunctionEnv_cells S.kind kinds fun env he s1 x1=>?_;subst he;refine ⟨lim.keeps x1.toInCall.keep,codeAny_func ?_⟩;obtain ⟨t,ht,hq⟩:=hbody cdv A outer s H vs Q E (hr.deeper _) hsp;have e1:Env0 P w K mg base ({ A with handled:=none }:Around) outer s H:=⟨e0.frames,e0.mod,e0.bs,e0.bsz,e0.funs,e0.frf,e0.hok,e0.bare⟩;have J:=Dr (CX:=CX0) (E:=E0) (qual:=qual) (f:=f) (cd:=cdv) S (show ({ A with handled:=none }:Around).handled=none from rfl) e1 hl r x1;have I:Inv (cxH P w K mg base N qual (aa st) f cdv A outer s H) [] (start N vs) H s1 :=
   ⟨⟨J.ok.mod,J.ok.kind,J.ok.glob,J.ok.blt,J.ok.above,J.ok.inj,J.ok.has,J.ok.cab,(fun z=>nomatch z),Around.frames_deeper e0.frames,J.ok.stk,J.ok.exf,J.ok.bs,J.ok.bsz,J.ok.noex,J.ok.exfs,J.ok.funs,J.ok.frf⟩,J.os,J.bare,J.base,J.loc,J.cell,J.free,J.freeC,J.pin,J.hok,J.len⟩
 refine wpAny_mono (ht [] s1 (start N vs) H _ I hq) (fun fl s' hs=>?_) fun e s' hs=>False.elim hs;have fin:∀ {σ':St} {H':Hp} {v:V} {u:Value},Inv (cxH P w K mg base N qual (aa st) f cdv A outer s H) [] σ' H' s'->RelV v u->Q v H'->CE outer P w H s Q u s':=fun J rv q=>⟨_,_,J.os,J.bare,J.base,J.hok,rv,q⟩;cases fl with
 | ret u =>
   obtain ⟨v,σ',H',J,rv,q⟩:=hs;exact fin J rv q
 | next =>
   obtain ⟨σ',H',J,q⟩:=hs;exact fin (v:=V.non) (u:=Value.none) J rfl q
 | brk =>
   obtain ⟨_,_,_,q⟩:=hs;exact False.elim q
 | cont =>
   obtain ⟨_,_,_,q⟩:=hs;exact False.elim q
end
section
variable {X:Cx} {k:Nat} {f:Addr} {fd:FuncData} {ps:List Str} {sp:Sp} {x:Str} {p pos:Pos} {e:Expr} {es:List Expr} {t:TA}
theorem Q5 (F:FnOkH X.prog X.w X.K X.mg X.base k f fd ps sp) (hr:RoomH k X.A) (hg:Gl X x) (hm:X.mg x=some (.ref f)) (hk:PySem.W.keepIn X.K (.ref f)=true) (hb:Binds X.K fd ps [])
   (ha:PA X (e::es) t) (hdb:(x == ("__debug__":Str))=false:=by decide) (he:starEach (e::es) X.env=(false,eval e X.env)::starEach es X.env:=by rfl) (hpl:(backTo pos (starEach es X.env)).any (·.1)=false:=by rfl) :
   PE X (.Call (.Name x p) (e::es) [] pos) (BI sp [] E0 t):=by
 intro pins s σ H Q I h;refine wpAny_Call_Name_kw (jG I hg hm ?_ hdb);refine PySem.W.callWith_K (h₀:=X.base) I.ok.mod.kin hk (mS (ha pos pins s σ H _ I h) fun us s1 vs H1 I1 r q=>⟨I1.kIn,?_⟩) he hpl;have r2:Vals (vs++[]) (us++[]):=r.append .nil;have hl:(us++[]).length=ps.length:=by rw [<- r2.length];exact F.len _ _ _ _ q
 refine wpAny_call (codeAny_mono (F.run X.A X.stack s1 H1 ⟨us,[]⟩ (us++[]) (vs++[]) Q E0 hr I1.env0 (hb s1 us I1.kIn hl) r2 q) fun r s' hq=>?_);cases r with
 | error e=>exact False.elim hq
 | ok fl =>
   cases fl with
   | ret u=>exact I1.after hq
   | next=>exact False.elim hq
   | brk=>exact False.elim hq
   | cont=>exact False.elim hq
end
def Ls (K:PySem.W.Frag) (C:Addr):V->Bool->Prop
 | .ref C',b=>XCls K C'/\PySem.W.mroIn K C (.ref C')=some b
 | .ty T,b=>PySem.W.kitMeta T=true/\PySem.W.mroIn K C (.type T)=some b
 | _,_=>False
def XDict (H:Hp):Option Addr->Prop
 | none=>True
 | some d=>∃ fs,H d=some (.xd fs)
def Ru (K:PySem.W.Frag):List V->Hp->VK->Prop:=fun xs H Q=>∃ ea C od cv b,xs=[.ref ea,cv]/\H ea=some (ExO ea (.ref C) od)/\XDict H od/\XCls K C/\Ls K C cv b/\Q (.bl b) H
theorem CF {K:PySem.W.Frag} {C:Addr} {cv:V} {u:Value} {b:Bool} (c:XCls K C) (r:RelV cv u) (h:Ls K C cv b):PySem.W.kitOne K (.ref C) u=some b:=by
 unfold PySem.W.kitOne;cases cv with
 | ref C' =>
   cases (show u=Value.ref C' from r);obtain ⟨c',m⟩:=h;by_cases z:C=C'
   . subst z;rw [c.sf] at m;cases m;simp
   . have:(Value.ref C == Value.ref C')=false:=(by simpa using z);rw [this];simp only [Bool.false_eq_true,if_false];unfold PySem.W.kitCls;have q:((PySem.W.clsIn K C').isSome && PySem.W.typeIn K (.ref C') == some (.type "type"))=true:=by
       obtain ⟨cd,e,_⟩:=PySem.W.any_some c'.hd;rw [e,c'.ty];simp
     simp only [q,if_true];exact m
 | ty T =>
   cases (show u=Value.type T from r);obtain ⟨c',m⟩:=h;have:(Value.ref C == Value.type T)=false:=by simp
   rw [this];simp only [Bool.false_eq_true,if_false];unfold PySem.W.kitCls;simp only [c',if_true];exact m
 | non=>exact h.elim
 | bl=>exact h.elim
 | int=>exact h.elim
 | str=>exact h.elim
 | byt=>exact h.elim
 | flt=>exact h.elim
section
variable {X:Cx}
theorem Fk {pins:List (Addr × Obj)} {σ:St} {H:Hp} {s:Shared} {ea C:Addr} {od:Option Addr} (I:Inv X pins σ H s) (h:H ea=some (ExO ea (.ref C) od)) (d:XDict H od):∃ ox oo,PySem.W.InstAt s.heap ea ox C oo:=by
 obtain ⟨⟨oe,vs,h1,h2,h3,h4,_⟩,_⟩:=(show ObjOk X.prog X.w H s.heap ea (ExO ea (.ref C) od) from I.hok ea _ h);have nc:PySem.W.notCls oe=true:=by unfold PySem.W.notCls;rw [h4]
 cases od with
 | none=>exact ⟨oe,none,h1,h2,nc,by rw [h3];trivial⟩
 | some dx =>
   obtain ⟨fs,hd⟩:=d;obtain ⟨mA,⟨o,es,ep,e,_⟩,_⟩:=(show ObjOk X.prog X.w H s.heap dx (.xd fs) from I.hok dx _ hd);exact ⟨oe,some o,h1,h2,nc,by rw [h3];exact e⟩
theorem kJ:jF X (.builtin "isinstance") (Ru X.K):=by
 intro pins s σ H xs us Q I r h;obtain ⟨ea,C,od,cv,b,rfl,he,hd,c,hk,q⟩:=h;obtain ⟨u,cu,rfl,ru,rc⟩:=EJ r;cases (show u=Value.ref ea from ru);obtain ⟨ox,oo,ia⟩:=Fk I he hd;exact PySem.W.kia_one (Go (x:=ea) (ox:=ox) (od:=oo) c) I.kIn ia (CF c rc hk) (fun z=>nomatch z) fun tk=>⟨.bl b,H,I.tok tk,rfl,q⟩
end
end L2
set_option Elab.async false
set_option linter.all false
set_option maxRecDepth 100000
namespace L2
open PySem PySem.Spec PyProof.Rows
theorem Jd:∀ {ns:List Int} {us:List Value},Vals (ns.map V.int) us->IntsAre us ns
 | [],_,h=>by cases h;exact .nil
 | n::ns,_,h=>by
   cases h with
   | cons r t =>
     obtain ⟨k,rfl⟩:=(show ∃ t,_=Value.int n t from r);exact .cons n k (Jd t)
theorem IU:∀ {ns:List Int} {us:List Value},IntsAre us ns->Vals (ns.map V.int) us
 | _,_,.nil=>.nil
 | _,_,.cons n t r=>.cons ⟨t,rfl⟩ (IU r)
section
variable {X:Cx}
theorem Ig:jF X (.builtin "sorted") (fun xs H Q=>∃ (p:Addr) (ns:List Int),xs=[.ref p]/\SqL X.K H p (ns.map V.int)/\ns.length<64/\∀ (l:Addr) (zs:List Int),H l=none->zs.Perm ns->zs.Pairwise (·<=·)->Q (.ref l) (upd H l (.lst (zs.map V.int)))):=by
 intro pins s σ H xs us Q I r h;obtain ⟨p,ns,rfl,hp,h64,q⟩:=h;obtain ⟨u,rfl,ru⟩:=qP r;cases ru;obtain ⟨its,rv,pl,hz⟩:=I.list hp;have hi:=Jd rv;have e1:=IntsAre.length hi;refine sorted_ints pl.isList hi (by omega) fun out zs a1 a2 a3=>?_;obtain ⟨e,he⟩:=sortedAll_at s.heap its out;have hn:H (s.heap.objs.size+1)=none:=I.hok.fresh (Nat.le_succ _);have ln:zs.length=ns.length:=a2.length_eq;refine ⟨.ref (s.heap.objs.size+1),_,I.laid (a:=s.heap.objs.size+1) (o:=.lst (zs.map V.int)) (t':=s.toks) (fun b o e=>sortedAll_old e) (Nat.le_succ _) ⟨?_,out.toList,e,IU a1,?_⟩,rfl,q _ zs hn a2 a3⟩
 . rw [List.length_map,ln];exact ax (by omega)
 . exact he
end
theorem SJ {K:PySem.W.Frag} {C T:Addr} {c0:Value} {dd:Option Addr} {cd:ClassData} {sl:Array (Option Value)} (h:K.lookup C=some ⟨c0,dd,.cls cd,sl⟩) (m:cd.mro=.ref C::.ref T::bmV) (C':Addr):PySem.W.mroIn K C (.ref C')=some (decide (C'=C) || decide (C'=T)):=by
 unfold PySem.W.mroIn PySem.W.clsIn;rw [h];simp only [Option.bind_some,m,List.isEmpty_cons,Bool.false_eq_true,if_false]
 congr 1
 by_cases h1:C'=C
 . subst h1;simp
 . by_cases h2:C'=T
   . subst h2;simp
   . have a:(Value.ref C' == Value.ref C)=false:=(by simpa using h1);have b:(Value.ref C' == Value.ref T)=false:=(by simpa using h2);simp [List.contains_cons,a,b,h1,h2]
structure XErr (K:PySem.W.Frag) (T C:Addr):Prop where
 x:XCls K C
 mr:∀ C',PySem.W.mroIn K C (.ref C')=some (decide (C'=C) || decide (C'=T))
 mv:PySem.W.mroIn K C (.type "ValueError")=some true
theorem BZ {K:PySem.W.Frag} {C:Addr} {c0:Value} {dd:Option Addr} {cd:ClassData} {sl:Array (Option Value)} {r:List Value} (h:K.lookup C=some ⟨c0,dd,.cls cd,sl⟩) (m:cd.mro=.ref C::r) {v:Value} (hv:(Value.ref C::r).contains v=true):PySem.W.mroIn K C v=some true:=by
 unfold PySem.W.mroIn PySem.W.clsIn;rw [h];simp only [Option.bind_some,m,List.isEmpty_cons,Bool.false_eq_true,if_false,hv]
section
variable {K:PySem.W.Frag} {T C:Addr} {c0:Value} {dd:Option Addr} {cd:ClassData} {sl:Array (Option Value)}
theorem Jl {r:List Value} (h1:PySem.W.typeIn K (.ref C)=some (.type "type")) (h2:PySem.W.findIn K (.ref C) "__getattribute__"=some (some (.builtin "BaseException.__getattribute__"))) (h3:PySem.W.findIn K (.ref C) "__getattr__"=some none)
   (h4:PySem.W.findIn K (.ref C) "__class__"=some (some (.builtin "object.__class__"))) (h5:PySem.W.specialIn K (.builtin "object.__class__") "__get__"=some (some (.builtin "getset_descriptor.__get__"))) (h6:PySem.W.takesIn K (.builtin "object.__class__")=some true)
   (h7:PySem.W.hasDictIn K C=true) (h:K.lookup C=some ⟨c0,dd,.cls cd,sl⟩) (m:cd.mro=.ref C::r) (a:r.contains (.type "object")=true) (b:r.contains (.type "BaseException")=true):XCls K C :=
 ⟨h1,h2,h3,h4,h5,h6,BZ h m (by rw [List.contains_cons,a,Bool.or_true]),BZ h m (by rw [List.contains_cons,b,Bool.or_true]),h7,BZ h m (by simp)⟩
structure XTop (K:PySem.W.Frag) (T:Addr):Prop where
 x:XCls K T
theorem Sx (h1:PySem.W.typeIn K (.ref C)=some (.type "type")) (h2:PySem.W.findIn K (.ref C) "__getattribute__"=some (some (.builtin "BaseException.__getattribute__"))) (h3:PySem.W.findIn K (.ref C) "__getattr__"=some none)
   (h4:PySem.W.findIn K (.ref C) "__class__"=some (some (.builtin "object.__class__"))) (h5:PySem.W.specialIn K (.builtin "object.__class__") "__get__"=some (some (.builtin "getset_descriptor.__get__"))) (h6:PySem.W.takesIn K (.builtin "object.__class__")=some true)
   (h7:PySem.W.hasDictIn K C=true) (h:K.lookup C=some ⟨c0,dd,.cls cd,sl⟩) (m:cd.mro=.ref C::bmV):XTop K C:=⟨Jl h1 h2 h3 h4 h5 h6 h7 h m (by decide +kernel) (by decide +kernel)⟩
theorem gY (h1:PySem.W.typeIn K (.ref C)=some (.type "type")) (h2:PySem.W.findIn K (.ref C) "__getattribute__"=some (some (.builtin "BaseException.__getattribute__"))) (h3:PySem.W.findIn K (.ref C) "__getattr__"=some none)
   (h4:PySem.W.findIn K (.ref C) "__class__"=some (some (.builtin "object.__class__"))) (h5:PySem.W.specialIn K (.builtin "object.__class__") "__get__"=some (some (.builtin "getset_descriptor.__get__"))) (h6:PySem.W.takesIn K (.builtin "object.__class__")=some true)
   (h7:PySem.W.hasDictIn K C=true) (h:K.lookup C=some ⟨c0,dd,.cls cd,sl⟩) (m:cd.mro=.ref C::.ref T::bmV):XErr K T C:=by
 have a:(Value.ref T::bmV).contains (.type "object")=true:=by rw [List.contains_cons];simp [bmV]
 have b:(Value.ref T::bmV).contains (.type "BaseException")=true:=by rw [List.contains_cons];simp [bmV]
 have c:(Value.ref T::bmV).contains (.type "ValueError")=true:=by rw [List.contains_cons];simp [bmV]
 exact ⟨Jl h1 h2 h3 h4 h5 h6 h7 h m a b,SJ h m,BZ h m (by rw [List.contains_cons,c,Bool.or_true])⟩
end
section
variable {P:Program} {w:World} {K:PySem.W.Frag} {mg:Str->Option Value} {base:Heap}
theorem Fun.okX {x qual:Str} {st:Stmt} {f:Addr} {fd:FuncData} {N ps:List Str} {k:Nat} {sp:Sp} (F:Fun K x qual st f fd) (S:FnScope N ps (aa st)) (len:∀ vs H Q E,sp vs H Q E->vs.length=ps.length)
   (hbody:∀ (cdv:Value) (A:Around) (outer:List Env) (s:Shared) (H:Hp) (vs:List V) (Q:VK) (E:XK),Room k (A.deeper (envOfC qual (aa st) s.heap.objs.size f cdv))->sp vs H Q E ->
     ∃ t,PSs (lg (CXe P w) P w K mg base N qual (aa st) f cdv A outer s H E) (aw st) t/\t { nx:=fun _ H'=>Q .non H',rt:=Q } (start N vs) H):FnOk P w K mg base (CXe P w) (k+1) f fd ps sp:=by
 obtain ⟨oc,od,kV,doc,pm,an,cdv,ct,osl,rfl,lk,hcd⟩:=F.ex;exact RO lk hcd S len fun A outer s H vs Q E hr hsp=>hbody cdv A outer s H vs Q E hr hsp
end
theorem DJ {C:Addr} {E:XK} {t:TA} {D:Ends} {σ:St} {H:Hp}:Nh C E t D σ H=t σ H fun vs H1=>vs.length<=sizeLine/\E (.ref C) none H1:=rfl
theorem Jk {tb:(St->XK)->TS} {th:TH} {D:Ends} {σ:St} {H:Hp}:Ua tb th D σ H=tb (fun σ' cls od H'=>th D σ' cls od H') D σ H:=rfl
theorem GF {K:PySem.W.Frag} {C':Addr} {i:Nat} {ts:TS} {tr:TH} {D:Ends} {σ:St} {cls:Value} {od:Option Addr} {H:Hp}:RZ K C' i ts tr D σ cls od H=∃ C b,cls=.ref C/\PySem.W.mroIn K C (.ref C')=some b /\
 if b=true then ∀ ea,H ea=none->ts (D.less i) (σ.set i (some (.ref ea))) (upd H ea (ExO ea cls od)) else tr D σ cls od H:=rfl
theorem D8:bootBuiltins "ValueError"=some (.type "ValueError"):=by decide +kernel
theorem bg {K:PySem.W.Frag} {H:Hp} {ea C C' Tl:Addr} {od:Option Addr} {Q:VK} (he:H ea=some (ExO ea (.ref C) od)) (hd:XDict H od) (xe:XErr K Tl C) (x':XErr K Tl C') (ne:C'≠Tl) (q:Q (.bl (decide (C'=C))) H):Ru K [.ref ea,.ref C'] H Q:=by
 refine ⟨ea,C,od,.ref C',decide (C'=C),rfl,he,hd,xe.x,⟨x'.x,?_⟩,q⟩;rw [xe.mr,decide_eq_false ne,Bool.or_false]
theorem tG {K:PySem.W.Frag} {H:Hp} {ea C Tl:Addr} {od:Option Addr} {Q:VK} (he:H ea=some (ExO ea (.ref C) od)) (hd:XDict H od) (xe:XErr K Tl C) (q:Q (.bl true) H):Ru K [.ref ea,.ty "ValueError"] H Q :=
 ⟨ea,C,od,.ty "ValueError",true,rfl,he,hd,xe.x,⟨by decide +kernel,xe.mv⟩,q⟩
theorem XDict.same {H H':Hp} {od:Option Addr} (e:Same H H') (h:XDict H od):XDict H' od:=by
 cases od with
 | none=>trivial
 | some d =>
   obtain ⟨fs,h⟩:=h;exact ⟨fs,e _ _ h⟩
theorem Fv {H:Hp} {l b:Addr} {xs zs:List V} {Q:VK} (h1:H l=some (.lst xs)) (h2:H b=some (.lst zs)) (hz:xs.length+zs.length<=sizeLine) (q:∀ p,H p=none->Q (.ref p) (upd H p (.lst (xs++zs)))):rCat (.ref l) (.ref b) H Q:=⟨l,b,xs,zs,rfl,rfl,h1,h2,hz,q⟩
theorem Same.put {H H':Hp} {l:Addr} (e:Same H H') (n:H l=none) (o:HO):Same H (upd H' l o):=fun b u h=>by rw [aq (bi h n)];exact e b u h
theorem GI (i:Int):∀ ns:List Int,inV (.int i) (ns.map V.int)=decide (i∈ns)
 | []=>by simp [inV]
 | n::ns=>by
   have ih:=GI i ns;unfold inV at ih ⊢;rw [List.map_cons,List.any_cons,ih];have e:eqV (.int n) (.int i)=decide (n=i):=by first|rfl|simp [eqV]
   rw [e];by_cases h:i=n
   . subst h;simp
   . simp [h,Ne.symm h]
theorem DB:∀ ns:List Int,(ns.map V.int).all oN=true
 | []=>rfl
 | n::ns=>by rw [List.map_cons,List.all_cons,DB ns];rfl
theorem inL {K:PySem.W.Frag} {neg:Bool} {H:Hp} {p:Addr} {i:Int} {ns:List Int} {Q:VK} (h:H p=some (.lst (ns.map V.int))) (q:Q (.bl (if neg then !decide (i∈ns) else decide (i∈ns))) H):rIn K neg (.int i) (.ref p) H Q:=by
 refine ⟨p,_,rfl,.inl (SqL.of h),rfl,DB ns,?_⟩;rw [GI];exact q
end L2
set_option Elab.async false
set_option linter.all false
set_option maxRecDepth 100000
namespace L2
open PySem PySem.Spec PyProof.Rows
section
variable {X:Cx} {Nc:List Str} {own:Nat} {js:List Nat} {scope:Scope} {cl:List (Str × Addr)}
end
end L2
set_option Elab.async false
set_option linter.all false
set_option maxRecDepth 100000
namespace L2
open PySem PySem.Spec PyProof.Rows
end L2
set_option Elab.async false
set_option linter.all false
set_option maxRecDepth 100000
namespace Pb
open L2 PySem
variable {m:Int} {rs:List Road} {r:Int} {par:Int->Int} {dep:Int->Nat}
theorem NZ {n i:Nat} (h:i<n):(below n)[i]?=some (i:Int):=by unfold below;rw [List.getElem?_map,List.getElem?_range h];rfl
theorem Gc (n:Nat) (v:V):(List.replicate n [v]).flatten=List.replicate n v:=by
 induction n with
 | zero=>rfl
 | succ n ih=>rw [List.replicate_succ,List.flatten_cons,ih,List.replicate_succ];rfl
end Pb
set_option Elab.async false
set_option linter.all false
set_option maxRecDepth 100000
namespace L2
open PySem PySem.Spec PyProof.Rows
def Itv (K:PySem.W.Frag) (a:Addr) (n:Nat):It :=
 ⟨fun i H=>i<n/\∃ xs x,SqL K H a xs/\xs[n - 1 - i]?=some x,fun i H x H'=>H'=H/\∀ xs,SqL K H a xs->xs[n - 1 - i]?=some x,fun i H=>n<=i⟩
def Tf (K:PySem.W.Frag) (tl:TE):TI:=fun σ H R=>tl σ H fun x H1=>∃ a xs,x=.ref a/\SqL K H1 a xs/\R (Itv K a xs.length) H1
section
variable {X:Cx} {tg e:Expr} {te:TE} {p2 pos:Pos}
end
end L2
set_option Elab.async false
set_option linter.all false
set_option maxRecDepth 100000
namespace L2
open PySem PySem.Spec PyProof.Rows
def Op (te:TE):TE:=fun σ H Q=>te σ H fun x H1=>∃ i,x=.int i/\0<=i/\i<=100000/\∀ l,H1 l=none->Q (.ref l) (upd H1 l (.lst ((Pb.below i.toNat).map V.int)))
section
variable {X:Cx} {e:Expr} {te:TE} {p1 p2 pos pos2:Pos}
end
end L2
set_option Elab.async false
set_option linter.all false
set_option maxRecDepth 100000
namespace L2
open PySem PySem.Spec PyProof.Rows PySem.W
section
variable {X:Cx}
end
end L2
set_option Elab.async false
set_option linter.all false
set_option maxRecDepth 100000
namespace L2
open PySem PySem.Spec PyProof.Rows
section
variable {X:Cx}
end
def Um (_ j:Int):Prop:=0<j/\j<18446744073709551616
theorem Q8 {X:Cx}:OpR X (binaryOp .FloorDiv) (rI Um fun i j=>.int (i / j)):=opI fun i j _ _ _ _ _ hc q=>by
 have h1:(0:Int)<j:=hc.1;have h2:j<18446744073709551616:=hc.2;refine floordiv_int (by omega) (by rw [Int.fdiv_eq_ediv_of_nonneg i (by omega)];exact q) (.inl ?_);have h3:j.natAbs.log2<64:=(Nat.log2_lt (by omega)).mpr (by omega);unfold Builtin.divisionGoesByPylong;have hz:(j == 0)=false:=by simp;omega
 simp only [hz,Bool.false_eq_true,if_false];have:¬ (j.natAbs.log2 / 30+1 > 300):=by omega
 simp [this]
theorem Sj {X:Cx} (K:PySem.W.Frag) (hK:X.K=K) {es:List Expr} {k:Nat} {pos:Pos} {t:TGs} {n:Nat} (hc:X.calm=true) (h:PGs X es t)
   (hn:(assignEach es X.env).length=n:=by rfl) (hst:(assignEach es X.env).findIdx? (·.1)=none:=by rfl):PG X (.Tuple es k pos) (J5 K n t):=by
 subst hK;exact jW hc h hn hst
theorem RC {K:PySem.W.Frag} {c d:Bool} {a b p:Addr} {xs zs:List V} {Q:VK} {g:TG} {tc:TT} {te:TE} {σ0:St} {H0:Hp} (Pv:Nat->List V->St->Hp->Prop) (h0:Pv 0 [] σ0 H0) (hl:∀ i ys σ H,Pv i ys σ H->SqX K c H a xs/\SqX K d H b zs)
   (hs:∀ (i:Nat) (x z:V) (ys:List V) (σ:St) (H:Hp) (q:Addr) (N:List V->St->Hp->Prop),(∀ ys' σ' H',Pv (i+1) ys' σ' H'->N ys' σ' H')->xs[i]?=some x->zs[i]?=some z->Pv i ys σ H->H q=none->g (.ref q) σ (upd H q (.tup [x,z])) fun σ2 H2=>tc σ2 H2 fun b H3 =>
     if b=true then te σ2 H3 fun y H4=>H4 p=some (.lst ys)/\ys.length<sizeLine/\N (ys++[y]) σ2 (upd H4 p (.lst (ys++[y]))) else N ys σ2 H3)
   (hd:∀ ys σ H,Pv (min xs.length zs.length) ys σ H->Q (.ref p) H):EY (Itz K c d a b) p Q g tc te σ0 H0:=by
 refine ⟨fun i m ys σ H=>m=min xs.length zs.length - i/\i<=min xs.length zs.length/\Pv i ys σ H,⟨_,rfl,Nat.zero_le _,h0⟩,?_⟩;rintro i m ys σ H ⟨rfl,hi,pv⟩;obtain ⟨q1,q2⟩:=hl i ys σ H pv;by_cases hlt:i<min xs.length zs.length
 . refine .inr ⟨⟨xs,zs,xs[i]'(by omega),zs[i]'(by omega),q1,q2,List.getElem?_eq_getElem (by omega),List.getElem?_eq_getElem (by omega)⟩,fun x H' y=>?_⟩;obtain ⟨p',x',y',hp,rfl,rfl,e1,e2⟩:=y;exact hs i x' y' ys σ H p' (fun ys' σ' H'=>∃ m',m'<min xs.length zs.length - i/\(m'=min xs.length zs.length - (i+1)/\i+1<=min xs.length zs.length/\Pv (i+1) ys' σ' H')) (fun ys' σ' H' pv'=>⟨min xs.length zs.length - (i+1),by omega,rfl,hlt,pv'⟩) (e1 xs q1) (e2 zs q2) pv hp
 . have e:i=min xs.length zs.length:=by omega
   subst e;exact .inl ⟨⟨xs,zs,q1,q2,by omega⟩,hd ys σ H pv⟩
theorem wO {H:Hp} {l:Addr} {xs:List V} {i:Int} {v:V} {Q:Hp->Prop} (h:H l=some (.lst xs)) (i0:0<=i) (i1:i<xs.length) (q:Q (upd H l (.lst (xs.set i.toNat v)))):rSetL (.ref l) (.int i) v H Q :=
 ⟨l,xs,i,i.toNat,rfl,rfl,h,by unfold ixN;rw [if_pos i0,if_pos (by omega)],q⟩
theorem atG {xs:List Int} {i:Int} (i0:0<=i) (i1:i<xs.length):atI (xs.map V.int) i=some (.int (xs.getD i.toNat 0)):=yZ i0 (by
 have h:i.toNat<xs.length:=by omega
 rw [List.getElem?_map,List.getElem?_eq_getElem h];simp [List.getD,h])
theorem Up (n:Nat) (v:V):(List.replicate n [v]).flatten=List.replicate n v:=by
 induction n with
 | zero=>rfl
 | succ n ih=>rw [List.replicate_succ,List.flatten_cons,ih,List.replicate_succ];rfl
theorem EO {xs:List Int} {n:Nat} {v:Int} (h:∀ x∈xs,0<=x) (hv:0<=v):∀ x∈xs.set n v,0<=x:=fun x hx=>by
 rcases List.mem_or_eq_of_mem_set hx with h1|h1
 . exact h x h1
 . rw [h1];exact hv
theorem CS {xs:List Int} (h:∀ x∈xs,0<=x) (n:Nat):0<=xs.getD n 0:=by
 by_cases z:n<xs.length
 . rw [List.getD,List.getElem?_eq_getElem z];exact h _ (List.getElem_mem z)
 . rw [List.getD,List.getElem?_eq_none (by omega)];exact Int.le_refl _
theorem zO {X:Cx}:Tr X (EL X.K):=by
 intro pins s σ H x y v u Q I rx ry h;obtain ⟨p,xs,i,z,rfl,rfl,hq,he,q⟩:=h;cases rx;obtain ⟨t,rfl⟩:=ry;obtain ⟨its,r,pl,hz⟩:=I.list hq;obtain ⟨j,h1,h2,h3,h4,h5⟩:=C6 he;obtain ⟨w,ew,rw'⟩:=r.get h2;have hl:=r.length;have hn:=pB;have fin:EP X pins σ Q w s:=⟨z,H,I,rw',q⟩;by_cases h0:0<=i
 . have hj:i.toNat=j:=by
     rw [seqIndex_of h0 h5] at h1;exact Option.some.inj h1
   exact wpAny_getItem_list pl.isList h0 (by omega) (by rw [hj];simpa using ew) fin
 . have hj:(i+(its.toArray.size:Int)).toNat=j:=by
     rw [seqIndex_neg (by omega) h4] at h1;rw [List.size_toArray,<- hl];exact Option.some.inj h1
   exact wpAny_getItem_list_neg pl.isList (by omega) (by rw [List.size_toArray] <;> omega) (by omega) (by rw [hj];simpa using ew) fin
end L2
set_option Elab.async false
set_option linter.all false
set_option maxRecDepth 100000
namespace Pb
open L2
section
variable {m:Int} {rs:List Road} {r:Int} {par:Int->Int} {dep:Int->Nat}
variable {held:Int->Int} {con:Int->Int->Int}
end
end Pb
set_option Elab.async false
set_option linter.all false
set_option maxRecDepth 100000
namespace Pb
open L2
section
variable {m:Int} {rs:List Road} {r:Int} {par:Int->Int} {dep:Int->Nat} {held:Int->Int}
end
section
open PySem
end
end Pb
set_option Elab.async false
set_option linter.all false
set_option maxRecDepth 100000
namespace L2
open PySem PySem.Spec PyProof.Rows
end L2
set_option Elab.async false
set_option linter.all false
set_option maxRecDepth 100000
namespace L2
open PySem PySem.Spec PyProof.Rows
def UF (lo st:Int) (n:Nat):It:=⟨fun i _=>i<n,fun i H x H'=>H'=H/\x=.int (lo+i*st),fun i _=>n<=i⟩
def RX (ta:TA):TI:=fun σ H R=>ta σ H fun vs H1=>∃ i j c:Int,vs=[.int i,.int j,.int c]/\(0<=i/\i<=1000000/\0<=j/\j<=1000000/\0<c/\c<=1000000)/\R (UF i c (Builtin.Range.rangeSize i j c).toNat) H1
section
variable {X:Cx} {tg:Expr}
end
end L2
set_option Elab.async false
set_option linter.all false
set_option maxRecDepth 100000
namespace L2
open PySem PySem.Spec PyProof.Rows
def Tg (K:PySem.W.Frag) (c:Bool):R2:=fun x y H Q=>∃ p xs i v,x=.ref p/\y=.int i/\SqX K c H p xs/\atI xs i=some v/\Q v H
theorem TR {X:Cx} (c:Bool):IxR X (Tg X.K c):=by
 cases c
 . exact bo
 . exact av
theorem ixX {K:PySem.W.Frag} {c:Bool} {H:Hp} {p:Addr} {xs:List V} {i:Int} {v:V} {Q:VK} (h:SqX K c H p xs) (e:atI xs i=some v) (q:Q v H):Tg K c (.ref p) (.int i) H Q:=⟨p,xs,i,v,rfl,rfl,h,e,q⟩
theorem UD {K:PySem.W.Frag} {H:Hp} {p:Addr} {xs:List V} {i:Int} {v:V} {Q:VK} (h:SqT K H p xs) (e:atI xs i=some v) (q:Q v H):PM K (.ref p) (.int i) H Q:=⟨p,xs,i,v,rfl,rfl,h,e,q⟩
end L2
namespace Pb
open L2 PySem
section
variable {m:Int} {rs:List Road} {r:Int} {par:Int->Int} {dep:Int->Nat}
end
end Pb
set_option Elab.async false
set_option linter.all false
set_option maxRecDepth 100000
namespace L2
open PySem PySem.Spec PyProof.Rows
theorem GC {P:Program} {w:World} {A:Around} {l:Addr} (c:Bool) {it:Addr} (hh:A.handled=none) (ne:l≠it) (its:Array Value):Draws P w A it [it,l] its.size (fun i v=>its[i]?=some v) (fun i h=>zAt l c it i h/\MX l c h its) where
 live:=fun i h st=>let ⟨o,e,_⟩:=(eu l c P w).obj _ _ _ st.1;⟨o,e⟩
 frame:=fun i h h' st k=>⟨(eu l c P w).atK _ _ _ _ st.1 fun o e=>k it (by simp) o e,(eu l c P w).srcK _ _ _ st.2 fun o e=>k l (by simp) o e⟩
 item:=fun i s Q E hi st hq=>(eu l c P w).item A s it i its its[i] Q E st.1 st.2 (by simp [hi]) fun h' at' sb=>hq its[i] h' s.toks (by simp [hi]) ⟨at',(eu l c P w).srcK _ _ _ st.2 fun o e=>sb.extBut _ _ ne e⟩ sb
 done:=fun s Q E st hq=>(eu l c P w).fin A s it its.size its Q E hh st.1 st.2 (by simp) fun h' e eb he=>hq h' e eb he
section
variable {P:Program} {w:World} {A:Around} {E:Value->Shared->Prop} {s:Shared} {l:Addr} {ob:Obj} {src:Heap->Array Value->Prop} {at':Addr->Nat->Heap->Prop}
abbrev EB (n:Nat):Obj:={ cls:=.type "enumerate",data:=.fields #[.none,.bool false,.ref n,rawInt 0,.none,.none] }
theorem Ck (S:∀ P w,SubF P w l ob src at') (xs:Array Value) :
   Meets (Builtin.«enumerate.__new__» ⟨[.type "enumerate",.ref l],[]⟩) (fun _ R s=>src s.heap xs/\R (.ok (.ret (.ref (s.heap.push ob).objs.size))) { s with heap:=(s.heap.push ob).push (EB s.heap.objs.size) }) :=
 .of_wp fun prog w A R s hyp=>by
   obtain ⟨hp,g,d,tk,os⟩:=s;obtain ⟨q1,r⟩:=hyp;have zsub:=sub_enumerate;have B1:src (Shared.heap ⟨hp,g,d,tk,os⟩) xs:=q1
   wp_walk using ((S prog w).start _ _ _ _ _ B1)
   refine wpAny_stack_any fun st=>?_;dsimp only;refine wpAny_pure ?_;have go:∀ b:Bool,b=true\/b=false:=fun b=>by cases b <;> simp
   split
   . rename_i c _ _ _ _ _
     rcases go (c == Value.type "enumerate") with z|z
     . rw [z]
       wp_walk using ((S prog w).start _ _ _ _ _ B1)
       exact ⟨_,rfl,r⟩
     . rw [z]
       wp_walk using ((S prog w).start _ _ _ _ _ B1)
       exact ⟨_,rfl,r⟩
   . wp_walk using ((S prog w).start _ _ _ _ _ B1)
     exact ⟨_,rfl,r⟩
theorem OL (S:∀ P w,SubF P w l ob src at') {xs:Array Value} {Q:Value->Shared->Prop} (q1:src s.heap xs) (f1:ob.isFreed=false)
   (h:∀ h',IsEnum h' (s.heap.objs.size+1) s.heap.objs.size 0 .none->at' s.heap.objs.size 0 h'->(∀ c o,s.heap.get? c=some o->h'.get? c=some o)->Q (.ref (s.heap.objs.size+1)) { s with heap:=h' }) :
   wpAny (model P w) A (call (.type "enumerate") [.ref l]) Q E s:=by
 refine callType_new F.called_enumerate (by decide) (F.typeCall_enumerate_1 _) (F.newCall_enumerate_1 _) (fun obj=>F.args_object_init_2 obj _) F.entry_enumerate_new (Ck S xs) ⟨q1,?_⟩;have n0:(s.heap.push ob).objs.size=s.heap.objs.size+1:=Heap.size_push ..;have c2:((s.heap.push ob).push (EB s.heap.objs.size)).get? (s.heap.push ob).objs.size=some (EB s.heap.objs.size):=Heap.get?_push_size _ rfl;have c1:((s.heap.push ob).push (EB s.heap.objs.size)).get? s.heap.objs.size=some ob:=Heap.get?_push_of_some _ (Heap.get?_push_size _ f1);show _/\_;rw [n0] at c2;rw [n0];exact ⟨⟨_,c2,rfl⟩,h _ c2 ((S P w).first _ _ c1) fun c o e=>Heap.get?_push_of_some _ (Heap.get?_push_of_some _ e)⟩
end
def Ite (K:PySem.W.Frag) (c:Bool) (a:Addr):It :=
 ⟨fun i H=>∃ xs x,SqX K c H a xs/\xs[i]?=some x,
  fun i H v H'=>∃ p x,H p=none/\v=.ref p/\H'=upd H p (.tup [.int i,x])/\∀ xs,SqX K c H a xs->xs[i]?=some x,
  fun i H=>∃ xs,SqX K c H a xs/\xs.length=i⟩
theorem Nm {P:Program} {w:World} {K:PySem.W.Frag} {elts:List Expr} {x1} {tpos:Pos} (c:Bool) (a e it:Addr) (ne:e≠it) (ae:a≠e) (ai:a≠it) :
   Turn P w K (.Tuple elts x1 tpos) (Ite K c a) [e,it] e (fun i h=>(∃ old,IsEnum h e it (i:Nat) old)/\zAt a c it i h) where
 mem:=by simp
 obj:=fun i h t b hb=>by
   obtain ⟨⟨old,t1⟩,t2⟩:=t;simp only [List.mem_cons,List.mem_nil_iff,or_false] at hb;rcases hb with rfl|rfl
   . exact ⟨_,t1,fun v z=>by cases z⟩
   . exact (eu a c P w).obj _ _ _ t2
 keep:=fun i h h' t k=>by
   obtain ⟨⟨old,t1⟩,t2⟩:=t;exact ⟨⟨old,k e (by simp) _ t1⟩,(eu a c P w).atK _ _ _ _ t2 fun o e=>k it (by simp) o e⟩
 item:=fun X e1 e2 e3 hc i pins s σ H E I f t g=>by
   subst e1 e2 e3;obtain ⟨⟨old,t1⟩,t2⟩:=t;obtain ⟨xs,x,s1,hx⟩:=g;obtain ⟨us,r1,q1⟩:=I.sqX s1;obtain ⟨xu,hxu,rx⟩:=r1.get hx;have hh:X.A.in1.handled=none:=I.ok.hd hc;have fz:∀ q∈[e,it],lA X pins H q:=f;have W:=WalksT.enumerateD (A:=X.A) (GC (P:=X.prog) (w:=X.w) (A:=X.A.in1) (l:=a) c (it:=it) hh ai us.toArray) e ne (by simp;exact ⟨ne,ae.symm⟩) (by simp);have hil:i<us.toArray.size:=by
     have:=(List.getElem?_eq_some_iff.mp hxu).1
     simpa using this
   refine W.item i s _ _ hil ⟨⟨old,t1⟩,t2,q1⟩ fun T vals h' tk pt le tup mid keep=>?_;refine ⟨_,rfl,W.go elts x1 tpos i T { s with heap:=h',toks:=tk } _ _ mid fun h2 st2 keep2=>?_⟩;obtain ⟨tt,xv,px,ev⟩:=pt;have exv:xv=xu:=by
     have h1:us[i]?=some xv:=(by simpa using px);rw [hxu] at h1;cases h1
     rfl
   subst exv;have Tw:T ∉ [e,it]:=W.apart i T h' mid;have kp:∀ q o,q ∉ [e,it]->s.heap.get? q=some o->h2.get? q=some o:=fun q o hq eo=>keep2 q o hq (keep q o hq eo);obtain ⟨ot,ht,hct,nt,hdt⟩:=tup;have new:h2.get? T=some ot:=keep2 T ot Tw ht;have Hn:∀ q u,H q=some u->q ∉ [e,it]:=fun q u e hq=>by rw [(fz q hq).1] at e;cases e
   have nH:H T=none:=I.hok.fresh le;have Tb:∀ q o,s.heap.get? q=some o->q≠T:=fun q o eo=>Nat.ne_of_lt (Nat.lt_of_lt_of_le (Heap.lt_size eo) le);have I2:Inv X pins σ H { s with heap:=h2,toks:=tk }:=by
     refine I.step (g':=s.gens) (d':=s.drawn) (t':=tk) (ch:=[e,it]) (fun q hq=>⟨(fz q hq).2.2.2.1,(fz q hq).2.1,(fz q hq).2.2.2.2.1,(fz q hq).2.2.2.2.2⟩) (fun q o _ _ hq e _=>kp q o hq e) (fun q o _ _ hq e _=>⟨o.slots,kp q o hq e⟩) (fun _ _ _ _ n=>n)
       (fun q o hq e=>⟨o,kp q o hq e⟩) (fun _ _ e=>e) (fun _ _ _ e=>e) (fun q ps e=>⟨#[],by rw [e];simp⟩) (fun m hm=>?_) (fun q u e=>?_) I.bare
     . obtain ⟨o,es,ep,ho,r⟩:=hm;exact ⟨o,es,ep,kp _ o (fun hq=>(fz _ hq).2.1 rfl) ho,r⟩
     . refine (I.hok q u e).stay (fun q' v hq' e'=>kp q' v ?_ e') (fun _ e'=>e') fun _ _ e'=>e';rcases hq' with rfl|hq'
       . exact Hn _ u e
       . exact Hn _ _ hq'
   have I3:Inv X pins σ (upd H T (.tup [.int i,x])) { s with heap:=h2,toks:=tk }:=by
     refine ⟨I2.ok,I2.os,I2.bare,?_,I2.loc,I2.cell,?_,fun n c e=>?_,fun p hp=>?_,fun q u e=>?_,I2.len⟩
     . refine ⟨I2.base.keep,I2.base.slot,fun q o e n hx=>?_,I2.base.there,fun q xs e=>?_,fun q o u e=>?_,fun q ps e=>?_⟩
       . have lt:q<X.s₀.heap.objs.size:=Heap.lt_size e;rw [aq (Nat.ne_of_lt (Nat.lt_of_lt_of_le lt (Nat.le_trans I.sz le)))];exact I2.base.free q o e n hx
       . have e':=I2.base.tups q xs e;rw [aq (fun z=>by rw [z,nH] at e';cases e')];exact e'
       . have e':=I2.base.frzs q o u e;rw [aq (fun z=>by rw [z,nH] at e';cases e')];exact e'
       . obtain ⟨more,e'⟩:=I2.base.tbls q ps e;exact ⟨more,by rw [aq (fun z=>by rw [z,nH] at e';cases e')];exact e'⟩
     . rw [aq (Nat.ne_of_lt (Nat.lt_of_lt_of_le I.lt le))];exact I2.free
     . obtain ⟨vv,o,ho,_⟩:=I.cell n c e;rw [aq (Tb _ _ ho)];exact I2.freeC n c e
     . obtain ⟨k1,k2,k3⟩:=I.pin p hp;rw [aq (Tb _ _ k1)];exact I2.pin p hp
     . by_cases hq:q=T
       . subst hq;rw [ah] at e;cases e;refine ⟨by show 2<=sizeLine;decide,[.int (i:Nat) tt,xv],.cons ⟨tt,rfl⟩ (.cons rx .nil),ot,new,hct,nt,?_⟩;rw [hdt,ev]
       . rw [aq hq] at e;refine (I2.hok q u e).stay (fun _ _ _ e'=>e') (fun q' e'=>?_) fun q' xs e'=>?_
         . rw [aq (fun z=>by rw [z,nH] at e';cases e')];exact e'
         . rw [aq (fun z=>by rw [z,nH] at e';cases e')];exact e'
   refine ⟨.ref T,_,I3,rfl,⟨T,x,nH,rfl,rfl,fun xs' q=>?_⟩,⟨st2.1,st2.2.1⟩,fun q hq=>?_⟩
   . rw [<- I.sqX_inj s1 q];exact hx
   . have hlt:q≠T:=by
       simp only [List.mem_cons,List.mem_nil_iff,or_false] at hq;rcases hq with rfl|rfl
       . exact Tb _ _ t1
       . exact let ⟨o,e,_⟩:=(eu a c X.prog X.w).obj _ _ _ t2;Tb _ _ e
     rw [aq hlt];exact (fz q hq).1
 done:=fun X e1 e2 e3 hc i pins s σ H E I f t g=>by
   subst e1 e2 e3;obtain ⟨⟨old,t1⟩,t2⟩:=t;obtain ⟨xs,s1,hend⟩:=g;obtain ⟨us,r1,q1⟩:=I.sqX s1;have hh:X.A.in1.handled=none:=I.ok.hd hc;have fz:∀ q∈[e,it],lA X pins H q:=f;have W:=WalksT.enumerateD (A:=X.A) (GC (P:=X.prog) (w:=X.w) (A:=X.A.in1) (l:=a) c (it:=it) hh ai us.toArray) e ne (by simp;exact ⟨ne,ae.symm⟩) (by simp);have ei:i=us.toArray.size:=by
     have:=r1.length;simp;omega
   subst ei;refine W.done s _ _ ⟨⟨old,t1⟩,t2,q1⟩ fun h' tk keep=>⟨rfl,?_⟩;have kp:∀ q o,q ∉ [e,it]->s.heap.get? q=some o->h'.get? q=some o:=fun q o hq e=>keep q o hq e;have Hn:∀ q u,H q=some u->q ∉ [e,it]:=fun q u e hq=>by rw [(fz q hq).1] at e;cases e
   refine I.step (g':=s.gens) (d':=s.drawn) (t':=tk) (ch:=[e,it]) (fun q hq=>⟨(fz q hq).2.2.2.1,(fz q hq).2.1,(fz q hq).2.2.2.2.1,(fz q hq).2.2.2.2.2⟩) (fun q o _ _ hq e _=>kp q o hq e) (fun q o _ _ hq e _=>⟨o.slots,kp q o hq e⟩) (fun _ _ _ _ n=>n)
     (fun q o hq e=>⟨o,kp q o hq e⟩) (fun _ _ e=>e) (fun _ _ _ e=>e) (fun q ps e=>⟨#[],by rw [e];simp⟩) (fun m hm=>?_) (fun q u e=>?_) I.bare
   . obtain ⟨o,es,ep,ho,r⟩:=hm;exact ⟨o,es,ep,kp _ o (fun hq=>(fz _ hq).2.1 rfl) ho,r⟩
   . refine (I.hok q u e).stay (fun q' v hq' e'=>kp q' v ?_ e') (fun _ e'=>e') fun _ _ e'=>e';rcases hq' with rfl|hq'
     . exact Hn _ u e
     . exact Hn _ _ hq'
 self:=fun A i s Q E t q=>by
   obtain ⟨⟨old,t1⟩,t2⟩:=t;exact wpAny_pyIter_enum t1 q
def LF (K:PySem.W.Frag) (c:Bool) (tl:TE):TI:=fun σ H R=>tl σ H fun x H1=>∃ a,x=.ref a/\(∃ xs,SqX K c H1 a xs)/\R (Ite K c a) H1
section
variable {X:Cx} {e:Expr} {te:TE} {p2 pos:Pos}
theorem R6 {elts:List Expr} {x1} {tpos:Pos} (c:Bool) (hg:Gl X "enumerate") (hm:X.mg "enumerate"=none) (he:PE X e te) (h2:starEach [e] X.env=[(false,eval e X.env)]:=by rfl):PI X (.Tuple elts x1 tpos) (.Call (.Name "enumerate" p2) [e] [] pos) (LF X.K c te):=by
 intro pins s σ H R I h;refine Call_ (qv I hg hm boot_enumerate (PyProof.Rows.callWith_type1 ?_ h2 rfl));rw [h2];show wpAny _ _ (spliced ((false,eval e X.env)::backTo pos [])) _ _ s;refine Calls.spliced_cons (bn (he pins s σ H _ I h) fun u s1 x H1 I1 r1 q1=>Calls.spliced_nil ?_);obtain ⟨a,ex,⟨xs,sa⟩,q⟩:=q1;subst ex;cases r1;obtain ⟨us,r1,q1⟩:=I1.sqX sa;obtain ⟨oa,hoa⟩:=o0 a c _ _ q1;have la:=Heap.lt_size hoa;refine OL (eu a c) q1 (xD a c) fun h' w1 w2 w3=>?_;refine wpAny_pyIter_enum w1 ?_;refine ⟨_,[s1.heap.objs.size+1,s1.heap.objs.size],_,_,H1,rfl,I1.kept (t':=s1.toks) w3,Nm c a _ _ (Nat.succ_ne_self _) (Nat.ne_of_lt (Nat.lt_succ_of_lt la)) (Nat.ne_of_lt la),⟨⟨_,w1⟩,w2⟩,fun b hb=>?_,q⟩;have hle:s1.heap.objs.size<=b:=by
   simp only [List.mem_cons,List.mem_nil_iff,or_false] at hb;rcases hb with rfl|rfl
   . exact Nat.le_succ _
   . exact Nat.le_refl _
 exact I1.fpOk hle (I1.hok.fresh hle)
end
theorem Po {K:PySem.W.Frag} {c:Bool} {a:Addr} {xs:List V} {g:TG} {tb:TS} {D:Ends} {σ:St} {H:Hp} (Pv:Nat->St->Hp->Prop) (h0:Pv 0 σ H) (hl:∀ i σ H,Pv i σ H->SqX K c H a xs)
   (hs:∀ (i:Nat) (x:V) (σ:St) (H:Hp) (p:Addr) (N:St->Hp->Prop),(∀ σ' H',Pv (i+1) σ' H'->N σ' H')->xs[i]?=some x->Pv i σ H->H p=none->g (.ref p) σ (upd H p (.tup [.int i,x])) fun σ2 H2=>tb { D with nx:=N,ct:=N,bk:=D.nx } σ2 H2)
   (hd:∀ σ H,Pv xs.length σ H->D.nx σ H):qI (Ite K c a) D g tb σ H:=by
 refine ⟨fun i m σ H=>m=xs.length - i/\i<=xs.length/\Pv i σ H,⟨_,rfl,Nat.zero_le _,h0⟩,?_⟩;rintro i m σ H ⟨rfl,hi,p⟩;have q1:=hl i σ H p;by_cases hlt:i<xs.length
 . refine .inr ⟨⟨xs,xs[i],q1,List.getElem?_eq_getElem hlt⟩,fun σ' H'=>∃ m',m'<xs.length - i/\(m'=xs.length - (i+1)/\i+1<=xs.length/\Pv (i+1) σ' H'),fun σ' H' z=>z,fun x H' y=>?_⟩;obtain ⟨p',x',hp,rfl,rfl,e1⟩:=y;exact hs i x' σ H p' _ (fun σ' H' p'=>⟨xs.length - (i+1),by omega,rfl,hlt,p'⟩) (e1 xs q1) p hp
 . have e:i=xs.length:=by omega
   subst e;exact .inl ⟨⟨xs,q1,rfl⟩,hd σ H p⟩
end L2
set_option Elab.async false
set_option linter.all false
set_option maxRecDepth 100000
namespace Pb
open L2 PySem
abbrev Stp:=Int × Int × Int
def vSt (s:Stp):List V:=[.int s.1,.int s.2.1,.int s.2.2]
abbrev StepsAt (H:Hp):List Addr->List Stp->Prop:=Paired fun q s=>H q=some (.tup (vSt s))
theorem StepsAt.same {H H':Hp} {qs:List Addr} {ss:List Stp} (e:Same H H') (h:StepsAt H qs ss):StepsAt H' qs ss:=Paired.imp' (fun q v x=>e q _ x) h
theorem StepsAt.get {H:Hp}:∀ {ps:List Addr} {vs:List Stp} {i:Nat} {x:V},StepsAt H ps vs->(ps.map V.ref)[i]?=some x->∃ p v,x=.ref p/\ps[i]?=some p/\vs[i]?=some v/\H p=some (.tup (vSt v))
 | _,_,i,x,.nil,e=>by simp at e
 | _,_,0,x,.cons (a:=p) (b:=r) h hs,e=>⟨p,r,by simpa using e.symm,by simp,by simp,h⟩
 | a::l1,_,i+1,x,.cons h hs,e=>by
   have e':(List.map V.ref l1)[i]?=some x:=by simpa using e
   obtain ⟨p,r,h1,h2,h3,h4⟩:=StepsAt.get hs e';exact ⟨p,r,h1,by simpa using h2,by simpa using h3,h4⟩
theorem IX {α β:Type} {R:α->β->Prop} {a:α} {b:β} (h:R a b):∀ {l₁:List α} {l₂:List β},Paired R l₁ l₂->Paired R (l₁++[a]) (l₂++[b])
 | _,_,.nil=>.cons h .nil
 | _,_,.cons x xs=>.cons x (IX h xs)
theorem FJ {α β:Type} {R:α->β->Prop}:∀ {ps:List α} {vs:List β} {i:Nat} {x:α},Paired R ps vs->ps[i]?=some x->∃ v,vs[i]?=some v/\R x v
 | _,_,i,x,.nil,e=>by simp at e
 | _,_,0,x,.cons (a:=p) (b:=r) h hs,e=>by
   have:p=x:=by simpa using e
   subst this;exact ⟨r,by simp,h⟩
 | a::l1,_,i+1,x,.cons h hs,e=>by
   have e':l1[i]?=some x:=by simpa using e
   obtain ⟨v,h1,h2⟩:=FJ hs e';exact ⟨v,by simpa using h1,h2⟩
abbrev M8 (H:Hp):List Addr->List (List Int)->Prop:=Paired fun q xs=>H q=some (.tup (xs.map V.int))
def eW (rs:List Road) (a b:Int):Int:=(bF rs a b).getD 1
def gH (rs:List Road) (xs:List Int) (s:Stp):List Int :=
 (xs.set s.1.toNat (xs.getD s.1.toNat 0 - s.2.2*eW rs s.1 s.2.1)).set s.2.1.toNat ((xs.set s.1.toNat (xs.getD s.1.toNat 0 - s.2.2*eW rs s.1 s.2.1)).getD s.2.1.toNat 0+s.2.2)
theorem Dw (rs:List Road) (xs:List Int) (s:Stp):(gH rs xs s).length=xs.length:=by unfold gH;rw [List.length_set,List.length_set]
def jA (m:Int) (rs:List Road) (s:Stp):Bool:=decide (0<=s.1) && decide (s.1<m) && decide (s.2.1∈mH m rs s.1) && decide (1<=s.2.2)
def cm (m:Int) (rs:List Road) (xs:List Int) (s:Stp):Bool:=jA m rs s && decide (s.2.2*eW rs s.1 s.2.1<=xs.getD s.1.toNat 0)
def jc (rs:List Road) (xs:List Int) (ss:List Stp) (i:Nat):List Int:=(ss.take i).foldl (gH rs) xs
def q8 (rs:List Road) (xs:List Int) (ss:List Stp):List (List Int):=(List.range (ss.length+1)).map (jc rs xs ss)
def Nt (m:Int) (rs:List Road) (xs:List Int) (ss:List Stp):Prop:=∀ i s,ss[i]?=some s->cm m rs (jc rs xs ss i) s=true
theorem PJ (rs:List Road) (xs:List Int) (ss:List Stp) (i:Nat):(jc rs xs ss i).length=xs.length:=by
 unfold jc;have:∀ (l:List Stp) (ys:List Int),(l.foldl (gH rs) ys).length=ys.length:=by
   intro l
   induction l with
   | nil=>intro ys;rfl
   | cons s l ih=>intro ys;rw [List.foldl_cons,ih,Dw]
 exact this _ _
theorem NO {rs:List Road} {xs:List Int} {ss:List Stp} {i:Nat} {s:Stp} (h:ss[i]?=some s):jc rs xs ss (i+1)=gH rs (jc rs xs ss i) s:=by
 unfold jc;rw [List.take_succ,h,List.foldl_append]
 rfl
theorem yR (rs:List Road) (xs:List Int) (ss:List Stp):(q8 rs xs ss).length=ss.length+1:=by unfold q8;rw [List.length_map,List.length_range]
theorem rb {rs:List Road} {xs:List Int} {ss:List Stp} {i:Nat} (h:i<=ss.length):(q8 rs xs ss)[i]?=some (jc rs xs ss i):=by
 unfold q8;rw [List.getElem?_map,List.getElem?_range (by omega)]
 rfl
theorem Ow (rs:List Road) (xs:List Int) (ss:List Stp):jc rs xs ss 0=xs:=by unfold jc;rw [List.take_zero];rfl
theorem qp {m:Int} {rs:List Road} {s:Stp} (h:jA m rs s=true):(0<=s.1/\s.1<m)/\s.2.1∈mH m rs s.1/\1<=s.2.2:=by
 unfold jA at h;rw [Bool.and_eq_true,Bool.and_eq_true,Bool.and_eq_true] at h;exact ⟨⟨of_decide_eq_true h.1.1.1,of_decide_eq_true h.1.1.2⟩,of_decide_eq_true h.1.2,of_decide_eq_true h.2⟩
theorem E5 {m:Int} {rs:List Road} (g:Good m rs) {a b:Int} (h:Adj rs a b):∃ k,bF rs a b=some k/\2<=k/\k<=1000000:=by
 obtain ⟨x,hx,j⟩:=h;obtain ⟨i,hi⟩:=List.getElem?_of_mem hx;have ok:=g.ok x hx;have jj:yU x a b:=j;rw [OY g hi jj];unfold dU;by_cases c:x.a=a/\x.b=b
 . rw [if_pos c];exact ⟨_,rfl,ok.t0,ok.t1⟩
 . rw [if_neg c];have c2:x.a=b/\x.b=a:=by
     rcases jj with w|w
     . exact absurd w c
     . exact ⟨w.2,w.1⟩
   rw [if_pos c2];exact ⟨_,rfl,ok.u0,ok.u1⟩
theorem Dp {m:Int} {rs:List Road} (g:Good m rs) {s:Stp} (h:jA m rs s=true):∃ k,bF rs s.1 s.2.1=some k/\eW rs s.1 s.2.1=k/\(2<=k/\k<=1000000)/\(0<=s.2.1/\s.2.1<m):=by
 obtain ⟨h1,h2,h3⟩:=qp h;have ad:=(u9 g).mp h2;obtain ⟨k,e,r⟩:=E5 g ad;exact ⟨k,e,by unfold eW;rw [e];rfl,r,(g.adj ad).2.1⟩
end Pb
namespace L2
open PySem PySem.Spec PyProof.Rows
def RS (i j k:Nat) (ta:TA):TS:=fun D σ H=>ta σ H fun vs H1=>∃ v w z,vs=[v,w,z]/\D.nx (((σ.set i (some v)).set j (some w)).set k (some z)) H1
end L2
set_option Elab.async false
set_option linter.all false
set_option maxRecDepth 100000
namespace Pb
open L2
section
variable {m:Int} {rs:List Road} {r:Int} {par:Int->Int} {dep:Int->Nat} {held held':Int->Int} {con:Int->Int->Int}
end
end Pb
set_option Elab.async false
set_option linter.all false
set_option maxRecDepth 100000
namespace L2
open PySem PySem.Spec PyProof.Rows
end L2
namespace Pb
open L2 PySem
theorem QX {m:Int} {rs:List Road} {xs:List Int} {s:Stp} (h:cm m rs xs s=true):jA m rs s=true/\s.2.2*eW rs s.1 s.2.1<=xs.getD s.1.toNat 0:=by
 unfold cm at h;rw [Bool.and_eq_true] at h;exact ⟨h.1,of_decide_eq_true h.2⟩
theorem SR {m:Int} {rs:List Road} (g:Good m rs) {xs:List Int} (xl:(xs.length:Int)=m) (x0:∀ x∈xs,0<=x) {s:Stp} (h:cm m rs xs s=true):∀ x∈gH rs xs s,0<=x:=by
 obtain ⟨is,le⟩:=QX h;obtain ⟨ar,nb,n1⟩:=qp is;have h1:∀ x∈xs.set s.1.toNat (xs.getD s.1.toNat 0 - s.2.2*eW rs s.1 s.2.1),0<=x:=EO x0 (by omega);unfold gH;exact EO h1 (by have:=CS h1 s.2.1.toNat;omega)
end Pb
set_option Elab.async false
set_option linter.all false
set_option maxRecDepth 100000
namespace Pb
open L2 PySem
section
variable {m:Int} {rs:List Road}
end
def AtX (c:Bool) (H:Hp) (a:Addr) (xs:List V):Prop:=H a=some (if c then .lst xs else .tup xs)
theorem AtX.sq {K:PySem.W.Frag} {c:Bool} {H:Hp} {a:Addr} {xs:List V} (h:AtX c H a xs):SqX K c H a xs:=by
 cases c
 . exact SqT.of h
 . exact SqL.of h
end Pb
set_option Elab.async false
set_option linter.all false
set_option maxRecDepth 100000
namespace L2
open PySem PySem.Spec PyProof.Rows
section
variable {X:Cx} {i o:Expr} {ty td:TE}
def RY (ty td:TE):TE:=fun σ H Q=>ty σ H fun y H1=>td σ H1 fun x H2=>∃ a,x=.ref a/\((∃ o,DGet H2 a y o/\Q (.bl o.isSome) H2)\/(y=.non/\(∃ kvs,H2 a=some (.dK kvs))/\Q (.bl false) H2))
end
end L2
set_option Elab.async false
set_option linter.all false
set_option maxRecDepth 100000
namespace Pb
open L2 PySem
section
variable {m:Int} {rs:List Road} {r b:Int} {par:Int->Int} {dep:Int->Nat}
end
end Pb
namespace L2
theorem cs {A B:TS} {D:Ends} {σ:St} {H:Hp} (h:∀ N:St->Hp->Prop,(∀ σ' H',B D σ' H'->N σ' H')->A { D with nx:=N } σ H):MP A B D σ H:=h (B D) fun _ _ z=>z
end L2
set_option Elab.async false
set_option linter.all false
set_option maxRecDepth 100000
namespace L2
open PySem
theorem Os {K:PySem.W.Frag} {a:Addr} {xs:List V} {g:TG} {tb:TS} {D:Ends} {σ:St} {H:Hp} (Pv:Nat->St->Hp->Prop) (h0:Pv 0 σ H) (hl:∀ i σ H,i<=xs.length->Pv i σ H->SqL K H a xs)
   (hs:∀ (i:Nat) (x:V) (σ:St) (H:Hp) (N B:St->Hp->Prop),(∀ σ H,(g x σ H fun σ2 H2=>tb { D with nx:=N,ct:=N,bk:=D.nx } σ2 H2)->B σ H)->(∀ σ' H',Pv (i+1) σ' H'->N σ' H')->xs[i]?=some x->Pv i σ H->B σ H)
   (hd:∀ (B:St->Hp->Prop) σ H,(∀ σ H,D.nx σ H->B σ H)->Pv xs.length σ H->B σ H):qI (Itl K a) D g tb σ H :=
 yz Pv h0 hl (fun i x σ H N hN hx p=>hs i x σ H N (fun σ H=>g x σ H fun σ2 H2=>tb { D with nx:=N,ct:=N,bk:=D.nx } σ2 H2) (fun _ _ z=>z) hN hx p) fun σ H p=>hd (fun σ H=>D.nx σ H) σ H (fun _ _ z=>z) p
theorem Kp {lo:Int} {n:Nat} {g:TG} {tb:TS} {D:Ends} {σ:St} {H:Hp} (Pv:Nat->St->Hp->Prop) (h0:Pv 0 σ H)
   (hs:∀ (i:Nat) (σ:St) (H:Hp) (N B:St->Hp->Prop),(∀ σ H,(g (.int (lo+i)) σ H fun σ2 H2=>tb { D with nx:=N,ct:=N,bk:=D.nx } σ2 H2)->B σ H)->(∀ σ' H',Pv (i+1) σ' H'->N σ' H')->i<n->Pv i σ H->B σ H)
   (hd:∀ (B:St->Hp->Prop) σ H,(∀ σ H,D.nx σ H->B σ H)->Pv n σ H->B σ H):qI (Itr lo n) D g tb σ H :=
 ua Pv h0 (fun i σ H N hN hi p=>hs i σ H N (fun σ H=>g (.int (lo+i)) σ H fun σ2 H2=>tb { D with nx:=N,ct:=N,bk:=D.nx } σ2 H2) (fun _ _ z=>z) hN hi p) fun σ H p=>hd (fun σ H=>D.nx σ H) σ H (fun _ _ z=>z) p
theorem ex6 {α0:Sort _} {α1:Sort _} {α2:Sort _} {α3:Sort _} {α4:Sort _} {α5:Sort _} {P:α0->α1->α2->α3->α4->α5->Prop} (a0:α0) (a1:α1) (a2:α2) (a3:α3) (a4:α4) (a5:α5) (h:P a0 a1 a2 a3 a4 a5):∃ a0 a1 a2 a3 a4 a5,P a0 a1 a2 a3 a4 a5:=⟨a0,a1,a2,a3,a4,a5,h⟩
theorem ex7 {α0:Sort _} {α1:Sort _} {α2:Sort _} {α3:Sort _} {α4:Sort _} {α5:Sort _} {α6:Sort _} {P:α0->α1->α2->α3->α4->α5->α6->Prop} (a0:α0) (a1:α1) (a2:α2) (a3:α3) (a4:α4) (a5:α5) (a6:α6) (h:P a0 a1 a2 a3 a4 a5 a6):∃ a0 a1 a2 a3 a4 a5 a6,P a0 a1 a2 a3 a4 a5 a6:=⟨a0,a1,a2,a3,a4,a5,a6,h⟩
theorem ex8 {α0:Sort _} {α1:Sort _} {α2:Sort _} {α3:Sort _} {α4:Sort _} {α5:Sort _} {α6:Sort _} {α7:Sort _} {P:α0->α1->α2->α3->α4->α5->α6->α7->Prop} (a0:α0) (a1:α1) (a2:α2) (a3:α3) (a4:α4) (a5:α5) (a6:α6) (a7:α7) (h:P a0 a1 a2 a3 a4 a5 a6 a7):∃ a0 a1 a2 a3 a4 a5 a6 a7,P a0 a1 a2 a3 a4 a5 a6 a7:=⟨a0,a1,a2,a3,a4,a5,a6,a7,h⟩
theorem UC {α0:Sort _} {α1:Sort _} {α2:Sort _} {α3:Sort _} {α4:Sort _} {α5:Sort _} {α6:Sort _} {α7:Sort _} {α8:Sort _} {α9:Sort _} {α10:Sort _} {α11:Sort _} {P:α0->α1->α2->α3->α4->α5->α6->α7->α8->α9->α10->α11->Prop} (a0:α0) (a1:α1) (a2:α2) (a3:α3) (a4:α4) (a5:α5) (a6:α6) (a7:α7) (a8:α8) (a9:α9) (a10:α10) (a11:α11) (h:P a0 a1 a2 a3 a4 a5 a6 a7 a8 a9 a10 a11):∃ a0 a1 a2 a3 a4 a5 a6 a7 a8 a9 a10 a11,P a0 a1 a2 a3 a4 a5 a6 a7 a8 a9 a10 a11:=⟨a0,a1,a2,a3,a4,a5,a6,a7,a8,a9,a10,a11,h⟩
theorem an4 {p0 p1 p2 p3:Prop} (h0:p0) (h1:p1) (h2:p2) (h3:p3):p0/\p1/\p2/\p3:=⟨h0,h1,h2,h3⟩
theorem an5 {p0 p1 p2 p3 p4:Prop} (h0:p0) (h1:p1) (h2:p2) (h3:p3) (h4:p4):p0/\p1/\p2/\p3/\p4:=⟨h0,h1,h2,h3,h4⟩
theorem an6 {p0 p1 p2 p3 p4 p5:Prop} (h0:p0) (h1:p1) (h2:p2) (h3:p3) (h4:p4) (h5:p5):p0/\p1/\p2/\p3/\p4/\p5:=⟨h0,h1,h2,h3,h4,h5⟩
end L2
set_option Elab.async false
set_option linter.all false
set_option maxRecDepth 100000
namespace Pb
open L2 PySem
section
variable {m:Int} {rs:List Road} {r:Int} {par:Int->Int} {dep:Int->Nat}
variable {para parb parc:Int->Int} {depa depb depc:Int->Nat} {a b c:Int}
end
section
variable {m:Int} {rs:List Road} {r b:Int} {par:Int->Int} {dep:Int->Nat}
end
end Pb
set_option Elab.async false
set_option linter.all false
set_option maxRecDepth 100000
namespace Pb
open L2 PySem
section
variable {m:Int} {rs:List Road} {r b:Int} {par:Int->Int} {dep:Int->Nat}
end
end Pb
set_option Elab.async false
set_option linter.all false
namespace L2
open PySem
end L2
namespace Pb
open PySem L2
end Pb
set_option Elab.async false
set_option linter.all false
set_option maxRecDepth 100000
set_option exponentiation.threshold 5000
namespace Pb
open L2 PySem
section
variable {m:Int} {rs:List Road} {r:Int} {par:Int->Int} {dep:Int->Nat}
variable {op:Int->Int->Int} {held:Int->Int} {con:Int->Int->Int}
end
end Pb
set_option Elab.async false
set_option linter.all false
set_option maxRecDepth 100000
namespace L2
open PySem PySem.Spec PyProof.Rows
section
variable {X:Cx}
end
end L2
namespace Pb
end Pb
set_option Elab.async false
set_option linter.all false
set_option maxRecDepth 100000
namespace L2
open PySem PySem.Spec PyProof.Rows
theorem aG {l:List Addr} (h:l.Nodup) (i j:Nat) {a b:Addr} (hi:l[i]?=some a) (hj:l[j]?=some b) (ij:i≠j):a≠b:=fun z=>by
 subst z;obtain ⟨h1,e1⟩:=List.getElem?_eq_some_iff.mp hi;obtain ⟨h2,e2⟩:=List.getElem?_eq_some_iff.mp hj;rcases Nat.lt_or_gt_of_ne ij with q|q
 . exact List.pairwise_iff_getElem.mp h i j h1 h2 q (e1.trans e2.symm)
 . exact List.pairwise_iff_getElem.mp h j i h2 h1 q (e2.trans e1.symm)
inductive ClsAll (K:PySem.W.Frag) (C:Addr):List V->List Bool->Prop
 | nil:ClsAll K C [] []
 | cons {cv:V} {b:Bool} {cvs:List V} {bs:List Bool} (h:Ls K C cv b) (t:ClsAll K C cvs bs):ClsAll K C (cv::cvs) (b::bs)
theorem II {K:PySem.W.Frag} {C:Addr} (c:XCls K C):∀ {cvs:List V} {us:List Value} {bs:List Bool},Vals cvs us->ClsAll K C cvs bs->PySem.W.kitAny K (.ref C) us=some (bs.any id)
 | _,_,_,.nil,.nil=>rfl
 | _,_,_,.cons r t,.cons (b:=true) h hs=>by
   unfold PySem.W.kitAny;rw [CF c r h]
   rfl
 | _,_,_,.cons r t,.cons (b:=false) h hs=>by
   unfold PySem.W.kitAny;rw [CF c r h];have h2:=II c t hs;exact h2
def Uu (K:PySem.W.Frag):List V->Hp->VK->Prop:=fun xs H Q=>∃ ea C od tp cvs bs,xs=[.ref ea,.ref tp]/\H ea=some (ExO ea (.ref C) od)/\XDict H od/\XCls K C/\H tp=some (.tup cvs)/\ClsAll K C cvs bs/\Q (.bl (bs.any id)) H
section
variable {X:Cx}
theorem NJ:jF X (.builtin "isinstance") (Uu X.K):=by
 intro pins s σ H xs us Q I r h;obtain ⟨ea,C,od,tp,cvs,bs,rfl,he,hd,c,ht,hk,q⟩:=h;obtain ⟨u,cu,rfl,ru,rc⟩:=EJ r;cases (show u=Value.ref ea from ru);cases (show cu=Value.ref tp from rc);obtain ⟨ox,oo,ia⟩:=Fk I he hd;obtain ⟨its,rv,⟨⟨oc,odd,dat,sl⟩,e,e1,n,e2⟩,_⟩:=I.tuple (SqT.of ht);cases e1;cases e2;exact PySem.W.kia_tup (Go (x:=ea) (ox:=ox) (od:=oo) c) I.kIn ia e (II c rv hk) (fun z=>nomatch z) fun tk=>⟨.bl (bs.any id),H,I.tok tk,rfl,q⟩
def Uw (K:PySem.W.Frag):R2:=fun x y H Q=>∃ l b xs zs,x=.ref l/\y=.ref b/\SqL K H l xs/\SqL K H b zs/\xs.length+zs.length<=sizeLine/\∀ p,H p=none->Q (.ref p) (upd H p (.lst (xs++zs)))
theorem SO:OpR X (binaryOp .Add) (Uw X.K):=by
 intro pins s σ H x y v u Q I rx ry h;obtain ⟨l,b,xs,zs,rfl,rfl,h1,h2,hz,q⟩:=h;cases rx;cases ry;obtain ⟨its,r,⟨⟨c,d,dat,sl⟩,n,e,e1,e2,e3⟩,_⟩:=I.list h1;obtain ⟨its2,r2,⟨⟨c',d',dat',sl'⟩,n',e',e1',e2',e3'⟩,_⟩:=I.list h2;simp only at e1 e2 e3 e1' e2' e3';subst e1 e2 e3 e1' e2' e3';have hl:=r.length;have hl2:=r2.length;refine concat_meets ⟨_,e,rfl⟩ ⟨_,e',rfl⟩ noFill_list_add seq_list_add PySem.F.slot_list_add PySem.F.entry_list_add (PySem.F.args_list_add_2 _ _) (list_addW l b its.toArray its2.toArray n n' none none sl sl' (by rw [List.size_toArray,List.size_toArray];omega)) ⟨e,e',?_⟩;have ea:its.toArray++its2.toArray=(its++its2).toArray:=by simp
 rw [ea];exact ⟨.ref _,_,I.lnew (t':=s.toks) (r.append r2) (by rw [List.length_append];omega),rfl,q _ I.fresh⟩
def eqT:Value->Bool
 | .bool b=>b
 | _=>false
theorem Tu {bs:List Bool} {its:List Value} (r:Vals (bs.map V.bl) its):its=bs.map Value.bool:=by
 induction bs generalizing its with
 | nil=>cases r;rfl
 | cons b bs ih =>
   cases r with
   | cons h t =>
     rw [ih t,show _=Value.bool b from h]
     rfl
theorem R0 (b:Bool):PySem.MeetsSeq.EqGives (.bool b) (.bool true) b:=fun prog w A E s Q h=>by
 have:=PySem.SeqAt.EqAt.bool_bool (A:=A) (s:=s) b true prog w E Q;cases b
 . exact this h
 . exact this h
def rCountB:V->List V->Hp->VK->Prop:=fun x vs H Q=>∃ (l:Addr) (bs:List Bool),x=.ref l/\vs=[.bl true]/\H l=some (.lst (bs.map V.bl))/\Q (.int (bs.countP id:Nat)) H
theorem OF:MtM X "list.count" rCountB:=by
 intro pins s σ H x vs v us Q I rx rv h;obtain ⟨l,bs,rfl,rfl,hH,q⟩:=h;cases rx;obtain ⟨u,rfl,ru⟩:=rv.one;cases (show u=Value.bool true from ru);obtain ⟨z,its,n,r,hl,e⟩:=I.lstM hH;have ei:=Tu r;subst ei;have hc:(bs.map Value.bool).countP eqT=bs.countP id:=by
   rw [List.countP_map]
   rfl
 refine call_meets F.slot_list_count ⟨_,e,rfl⟩ F.entry_list_count (F.args_list_count_2 _ _) (PySem.MeetsSeq.list_count l (bs.map Value.bool).toArray n (.bool true) eqT (fun v hv=>?_)) ⟨e,?_⟩
 . obtain ⟨b,_,rfl⟩:=List.mem_map.mp (show v∈bs.map Value.bool by simpa using hv);exact R0 b
 . refine ⟨.int _,H,I.kept (t':=s.toks+1) fun b o eb=>eb,⟨s.toks,rfl⟩,?_⟩;show Q (.int (((bs.map Value.bool).toArray.toList.countP eqT:Nat):Int)) H;rw [List.toList_toArray,hc];exact q
def rIndexB:V->List V->Hp->VK->Prop:=fun x vs H Q=>∃ (l:Addr) (bs:List Bool) (j:Nat),x=.ref l/\vs=[.bl true]/\H l=some (.lst (bs.map V.bl))/\bs[j]?=some true/\(∀ i,i<j->bs[i]?=some false)/\j<1000/\Q (.int j) H
theorem M0:MtM X "list.index" rIndexB:=by
 intro pins s σ H x vs v us Q I rx rv h;obtain ⟨l,bs,j,rfl,rfl,hH,hj,hno,j1,q⟩:=h;cases rx;obtain ⟨u,rfl,ru⟩:=rv.one;cases (show u=Value.bool true from ru);obtain ⟨z,its,n,r,hl,e⟩:=I.lstM hH;have ei:=Tu r;subst ei;have hjl:j<bs.length:=(List.getElem?_eq_some_iff.mp hj).1;refine call_meets F.slot_list_index ⟨_,e,rfl⟩ F.entry_list_index (F.args_list_index_2 _ _) (PySem.MeetsSeq.list_index l (bs.map Value.bool).toArray n (.bool true) eqT (fun v hv=>?_) j (by simpa using hjl) (by omega) ?_ fun i hi hij=>?_) ⟨e,?_⟩
 . obtain ⟨b,_,rfl⟩:=List.mem_map.mp (show v∈bs.map Value.bool by simpa using hv);exact R0 b
 . have:=(List.getElem?_eq_some_iff.mp hj).2;simp [eqT,this]
 . have hil:i<bs.length:=by omega
   have:=(List.getElem?_eq_some_iff.mp (hno i hij)).2;simp [eqT,this]
 . exact ⟨.int j,H,I.kept (t':=s.toks+1) fun b o eb=>eb,⟨s.toks,rfl⟩,q⟩
end
end L2
set_option Elab.async false
set_option linter.all false
set_option maxRecDepth 100000
namespace L2
open PySem PySem.Spec PyProof.Rows
section
variable {P:Program} {w:World} {A:Around} {R:Result->Shared->Prop} {I S:Addr} {fp wr:List Addr} {n:Nat} {Pv:Nat->Value->Prop} {St:Nat->Heap->Prop} {bt:Nat->Nat->Bool} {kw:List (Str × Value)}
end
section
variable {X:Cx} {x:Str} {p pos kpos:Pos} {e de:Expr} {t tk:TA}
def RN (K:PySem.W.Frag) (t tk:TA):TE:=fun σ H Q=>t σ H fun vs H1=>tk σ H1 fun zs H2=>∃ (q:Addr) (ns:List Int) (d:V),vs=[.ref q]/\zs=[d]/\SqL K H2 q (ns.map V.int)/\ns≠[]/\∀ y,y∈ns->(∀ x∈ns,y<=x)->Q (.int y) H2
def R3 (t:TE):TE:=fun σ H Q=>t σ H fun x H1=>∃ b,x=.bl b/\Q (.bl (b != true)) H1
end
end L2
set_option Elab.async false
set_option linter.all false
set_option maxRecDepth 100000
namespace Pb
open L2 PySem
section
variable {m:Int} {rs:List Road} {r:Int} {par:Int->Int} {dep:Int->Nat}
variable {ch:Int->Option Int} {w:Int} {cn:Int->Int}
end
end Pb
set_option Elab.async false
set_option linter.all false
set_option maxRecDepth 100000
namespace L2
open PySem PySem.Spec PyProof.Rows PySem.W
section
variable {n:Nat}
variable (hn:0<n)
include hn
end
section
variable {prog:Program} {w:World} {A:Around} {E:Value->Shared->Prop} {s:Shared}
end
end L2
set_option Elab.async false
set_option linter.all false
set_option maxRecDepth 100000
namespace L2
open PySem PySem.Spec PyProof.Rows PySem.W Pb
section
variable {prog:Program} {w:World} {A:Around} {E:Value->Shared->Prop} {s:Shared} {it d:Addr} {i ep:Nat} {es:Array DictEntry}
end
section
variable {prog:Program} {w:World} {A:Around} {E:Value->Shared->Prop} {s:Shared} {fin:Bool} {C:Bool->Shared->Prop}
end
section
variable {prog:Program} {w:World} {A:Around} {E:Value->Shared->Prop} {s:Shared}
end
section
variable {X:Cx}
end
end L2
set_option Elab.async false
set_option linter.all false
set_option maxRecDepth 100000
namespace L2
end L2
namespace Pb
open L2 PySem
section
variable {m:Int} {rs:List Road} {r:Int} {par:Int->Int} {dep:Int->Nat}
end
section
end
end Pb
set_option Elab.async false
set_option linter.all false
set_option maxRecDepth 100000
namespace L2
open PySem PySem.Spec PyProof.Rows
def NA (tk tv:TE):TE:=fun σ H Q=>∀ p,H p=none->tS [(tk,tv)] σ (upd H p (.dT [])) fun ps H2=>H2 p=some (.dT [])/\∃ (k:List Key) (b:Addr) (y:V),ps=[(.ref b,y)]/\H2 b=some (.tup (k.map kV))/\Q (.ref p) (upd H2 p (.dT [(k,y)]))
end L2
set_option Elab.async false
set_option linter.all false
set_option maxRecDepth 100000
namespace Pb
open L2 PySem
end Pb
namespace Pb
open L2 PySem
section
variable {m:Int} {rs:List Road} {xs:List Int}
variable {r:Int} {par:Int->Int} {dep:Int->Nat}
end
end Pb
set_option Elab.async false
set_option linter.all false
set_option maxRecDepth 100000
namespace L2
open PySem PySem.Spec PyProof.Rows Pb
section
variable {X:Cx}
end
end L2
set_option Elab.async false
set_option linter.all false
set_option maxRecDepth 100000
namespace L2
open PySem PySem.Spec PyProof.Rows
end L2
namespace Pb
end Pb
namespace L2
open PySem Pb
end L2
namespace L2
open PySem
end L2
namespace L2
open PySem
end L2
namespace L2
open PySem PySem.Spec PyProof.Rows Pb
end L2
namespace L2
open PySem
end L2
set_option Elab.async false
set_option linter.all false
set_option maxRecDepth 100000
namespace Pb
open L2 PySem
section
variable {m:Int} {rs:List Road} {r:Int} {par:Int->Int} {dep:Int->Nat}
end
section
variable {m:Int} {rs:List Road} {xs:List Int}
end
end Pb
set_option Elab.async false
set_option linter.all false
set_option maxRecDepth 100000
namespace L2
open PySem PySem.Spec PyProof.Rows PySem.W Pb
section
variable {X:Cx} {pins:List (Addr × Obj)} {σ:St} {H:Hp} {s:Shared}
end
def Itd (d:Addr) (o:Obj) (kvs:List (List Key × V)):It :=
 ⟨fun i H=>H d=some (.frz o (.dT kvs))/\i<kvs.length,fun i H x H'=>H'=H/\∃ (q:Addr) (k:List Key) (v:V),x=.ref q/\kvs[i]?=some (k,v)/\H q=some (.tup (k.map kV)),fun i H=>H d=some (.frz o (.dT kvs))/\i=kvs.length⟩
def RL (tl:TE) (g:TG) (tb:TS):TS:=fun D σ H=>tl σ H fun x H1=>∃ (d:Addr) (kvs:List (List Key × V)),x=.ref d/\H1 d=some (.dT kvs) /\
 ∀ o,qI (Itd d o kvs) { D with nx:=fun σ' H'=>H' d=some (.frz o (.dT kvs))/\D.nx σ' (upd H' d (.dT kvs)) } g tb σ (upd H1 d (.frz o (.dT kvs)))
section
variable {X:Cx} {tg:Expr}
end
end L2
set_option Elab.async false
set_option linter.all false
set_option maxRecDepth 100000
namespace Pb
open L2 PySem
section
variable {α β:Type}
end
section
variable {m:Int} {rs:List Road} {r:Int} {par:Int->Int} {dep:Int->Nat}
end
end Pb
namespace Pb
open L2 PySem
section
variable {m:Int} {rs:List Road} {r:Int} {par:Int->Int} {dep:Int->Nat} {to:Bool}
end
end Pb
namespace Pb
open L2 PySem
end Pb
namespace Pb
open L2 PySem
end Pb
set_option Elab.async false
set_option linter.all false
set_option maxRecDepth 100000
namespace L2
open PySem PySem.Spec PyProof.Rows
section
variable {X:Cx} {cx:Str} {Nc:List Str} {own:Nat} {js:List Nat} {scope:Scope} {cl:List (Str × Addr)}
end
section
variable {X:Cx} {cx:Str} {Nc:List Str} {own:Nat} {js:List Nat} {scope:Scope} {cl:List (Str × Addr)}
end
end L2
set_option Elab.async false
set_option linter.all false
set_option maxRecDepth 100000
namespace L2
open PySem PySem.Spec PyProof.Rows PySem.W
section
variable {X:Cx}
end
def Its (z:Str):It:=⟨fun i _=>i<z.cps.size,fun i H x H'=>H'=H/\∃ c,z.cps[i]?=some c/\x=.str ⟨#[c]⟩,fun i _=>z.cps.size<=i⟩
section
variable {X:Cx} {tg:Expr}
def S8 (tl:TE):TI:=fun σ H R=>tl σ H fun x H1=>∃ z,x=.str z/\z.cps.all (·<128)=true/\R (Its z) H1
end
section
variable {P:Program} {w:World} {A:Around} {E:Value->Shared->Prop} {s:Shared}
end
section
variable {X:Cx} {e:Expr} {te:TE} {p2 apos cpos pos2:Pos} {z:Str} {zp:Pos} {zk:Nat}
def NP (K:PySem.W.Frag) (z:Str) (te:TE):TE:=fun σ H Q=>te σ H fun x H1=>∃ (a:Addr) (ys:List Str),x=.ref a/\SqL K H1 a (ys.map V.str)/\(ys.map (·.length)).sum+ys.length*z.length<=16777216/\Q (.str (Str.join z ys.reverse)) H1
end
end L2
set_option Elab.async false
set_option linter.all false
set_option maxRecDepth 100000
namespace Pb
open L2 PySem PySem.W NumText
end Pb
set_option Elab.async false
set_option linter.all false
set_option maxRecDepth 100000
namespace L2
open PySem PySem.Spec PyProof.Rows PySem.W
end L2
namespace Pb
open L2 PySem PySem.W NumText
open PySem.StrLaws (At ChainG occ_tight partsBetween_eq partsFrom strSub_toList subAt_eq sub_whole)
section
variable {X:Str} {u c v:Nat}
end
end Pb
set_option Elab.async false
set_option linter.all false
set_option maxRecDepth 100000
namespace L2
open PySem PySem.Spec PyProof.Rows PySem.W
end L2
namespace Pb
open L2 PySem PySem.W NumText
end Pb
set_option Elab.async false
set_option linter.all false
set_option maxRecDepth 100000
namespace Pb
open L2 PySem
section
variable {m:Int} {rs:List Road} {r:Int} {par:Int->Int} {dep:Int->Nat} {held:Int->Int}
end
end Pb
set_option Elab.async false
set_option linter.all false
set_option maxRecDepth 100000
namespace L2
open PySem PySem.Spec PyProof.Rows
section
variable {prog:Program} {w:World} {A:Around} {E:Value->Shared->Prop} {R:Result->Shared->Prop} {s:Shared}
end
section
variable {M:Model} {A:Around} {E:Value->Shared->Prop} {s:Shared} {Q:Unit->Shared->Prop} {fs:List Addr} {ea T L:Addr} {cls fl hd:Value} {od:Option Addr} {base:Heap} {env:Env} {outer:List Env}
end
section
variable {P:Program} {w:World} {K:PySem.W.Frag} {mg:Str->Option Value} {base:Heap} {N:List Str} {qual:Str} {scope:Scope} {f:Addr} {cd:Value} {A:Around} {outer:List Env} {s:Shared} {H:Hp} {E:XK}
end
section
variable {X:Cx} {Nc:List Str} {own:Nat} {js:List Nat} {scope:Scope} {cl:List (Str × Addr)}
end
section
variable {X:Cx} {Nc:List Str} {own:Nat} {js:List Nat} {scope:Scope} {cl:List (Str × Addr)}
end
section
variable {X:Cx}
end
end L2
set_option Elab.async false
set_option linter.all false
set_option maxRecDepth 100000
namespace L2
open PySem PySem.Spec PyProof.Rows
section
variable {prog:Program} {w:World} {A:Around} {E:Value->Shared->Prop} {h:Heap} {g:Array GenState} {d:Drawn} {t:Nat} {os:OsState}
variable {nm q:Str} {C N:Addr} {bs bm bmB:List Value} {hdct:Bool} {sn:List Str} {sub:List Value} {ab:Bool} {col:Option Bool} {dd:Option Addr} {k0 k1 k2 k3 k5:Option Value} {B newId initId:String}
theorem BX (F:ExcBaseFacts B newId initId bmB) (T:OwnTail h bmB bm) {mN:Str->Option Value} {cL:List Value} {fI:Addr} {oI:Obj} {Q:Fin->Shared->Prop}
   (hC:h.get? C=some (excClassObj nm q C N bs bm hdct sn sub ab col dd k0 k1 k2 k3 k5 newId)) (hn:h.Ns N mN) (hi:mN "__init__"=some (.ref fI)) (hfI:h.get? fI=some oI) (hfc:oI.cls=.type "function")
   (hq:∀ h' e,Heap.MadeExcOf h h' e (.ref C) cL->wpAny (model prog w) A (call (.ref fI) (.ref e::cL)) (fun r s'=>r=.none/\Q (.done (.ret (.ref e))) s') E ⟨h',g,d,t,os⟩) (hrest:cL.length<=sizeLine) :
   wpAny (model prog w) A (Builtin.«type.__call__» ⟨.ref C::cL,[]⟩) Q E ⟨h,g,d,t,os⟩:=by
 repeat (first|with_reducible refine wpAny_loadPart_at hC ?_|with_reducible refine wpAny_madeBy_exc hC ?_|wp_step)
 refine codeAny_call_builtin_code (Code.quiet_builtin _ F.quiet) (wpAny_check_new_subT F T hC ?_);refine codeAny_exc_new_subT F T hC ?_ hrest;show wpAny _ _ _ _ _ _;have up:∀ b o,h.get? b=some o->((h.push { cls:=.type "tuple",data:=.seq cL.toArray }).push { cls:=.ref C,data:=.fields #[.ref h.objs.size,.none,.none,.none,.bool false,.none] }).get? b=some o:=fun b o e=>Heap.get?_push_of_some _ (Heap.get?_push_of_some _ e);have hC1:=up _ _ hC;have hf1:=up _ _ hfI;have hn1:=hn.keeps up;have T1:=T.keeps up;have hget:((h.push { cls:=.type "tuple",data:=.seq cL.toArray }).push { cls:=.ref C,data:=.fields #[.ref h.objs.size,.none,.none,.none,.bool false,.none] }).get? (h.objs.size+1)=some { cls:=.ref C,data:=.fields #[.ref h.objs.size,.none,.none,.none,.bool false,.none] }:=by heap_get
 have hcC:(Value.ref C::bm).contains (.ref C)=true:=by simp
 unfold isInstance
 repeat (first|with_reducible refine wpAny_loadPart_at hget ?_|(with_reducible refine wpAny_isSubtype_exc hC1 ?_;rw [hcC])|wp_step)
 show wpAny _ _ (typeLookup (.ref C) _) _ _ _;refine wpAny_typeLookup_tail hC1 hn1 T1 F.mroIs F.init.lookup ?_;rw [hi];refine wpAny_holding (wpAny_bind ?_);unfold bindSpecial;refine wpAny_bind (wpAny_typeOf (T:="function") ⟨_,hf1,hfc⟩ ?_);rw [if_pos (by decide)];refine wpAny_pure (wpAny_bind (wpAny_mono (hq _ (h.objs.size+1) ⟨up,Heap.get?_none_of_le (Nat.le_succ _),h.objs.size,hget,Heap.get?_none_of_le (Nat.le_refl _),?_⟩) (fun r s' hr=>?_) fun _ _ x=>x))
 . exact Heap.get?_push_of_some _ (Heap.get?_push_at rfl rfl)
 . obtain ⟨rfl,hQ⟩:=hr
   wp_walk
   exact hQ
theorem Ld (F:ExcBaseFacts B newId initId bmB) (T:OwnTail h bmB bm) {mN:Str->Option Value} {cL:List Value} {fI:Addr} {oI:Obj} {Q:Value->Shared->Prop}
   (hC:h.get? C=some (excClassObj nm q C N bs bm hdct sn sub ab col dd k0 k1 k2 k3 k5 newId)) (hn:h.Ns N mN) (hi:mN "__init__"=some (.ref fI)) (hfI:h.get? fI=some oI) (hfc:oI.cls=.type "function")
   (hq:∀ h' e,Heap.MadeExcOf h h' e (.ref C) cL->wpAny (model prog w) (A.under (.builtin "type.__call__" ⟨.ref C::cL,[]⟩)) (call (.ref fI) (.ref e::cL)) (fun r s'=>r=.none/\Q (.ref e) s') E ⟨h',g,d,t,os⟩) (hrest:cL.length<=sizeLine) :
   wpAny (model prog w) A (call (.ref C) cL) Q E ⟨h,g,d,t,os⟩:=by
 have f1:=tc_lookup;have f2:=tc_bind (.ref C);have hT:(⟨h,g,d,t,os⟩:Shared).TypeIs (.ref C) "type":=⟨_,hC,rfl⟩;refine wpAny_call (codeAny_of_tree ?_);show wpAny _ _ (callAny (.ref C) _) _ _ _
 repeat (any_goals (first|assumption|with_reducible refine wpAny_loadPart_at hC ?_|wp_step))
 refine ⟨rfl,?_⟩;refine codeAny_call_builtin_at (Code.quiet_builtin _ (by decide +kernel)) entry_typeCall (wpAny_check_type_call_sub hC (BX F T hC hn hi hfI hfc (fun h' e hm=>?_) hrest));exact hq h' e hm
end
section
variable {M:Model} {A:Around} {E:Value->Shared->Prop} {env:Env}
variable {nm q:Str} {C N:Addr} {bs bm:List Value} {hdct:Bool} {sn:List Str} {sub:List Value} {ab:Bool} {col:Option Bool} {dd:Option Addr} {k0 k1 k2 k3 k5:Option Value} {newId:String}
theorem t6 {s:Shared} {x:Sem Value} {Q:Flow->Shared->Prop} (hbase:bm.contains (.type "BaseException")=true) (hh:A.handled=none)
   (h:wpAny M A x (fun v s₁=>∃ e a0 od sl,v=.ref e/\s₁.heap.get? C=some (excClassObj nm q C N bs bm hdct sn sub ab col dd k0 k1 k2 k3 k5 newId) /\
     s₁.heap.get? e=some { cls:=.ref C,dict:=od,data:=.fields #[a0,.none,.none,.none,.bool false,.none],slots:=sl }/\E (.ref e) s₁) E s) :
   wpAny M A (raiseStmt env (some x) none) Q E s:=by
 have hcB:(Value.ref C::bm).contains (.type "BaseException")=true:=by rw [List.contains_cons,hbase,Bool.or_true]
 unfold raiseStmt;refine wpAny_bind (wpAny_mono h (fun v s₁ h₁=>?_) fun _ _ x=>x);obtain ⟨e,a0,od,sl,rfl,hC,he,hE⟩:=h₁;obtain ⟨hp,g,d,tk,os⟩:=s₁
 repeat (first|with_reducible refine wpAny_loadPart_at he ?_|with_reducible refine wpAny_loadPart_at hC ?_|(with_reducible refine wpAny_isSubtype_exc hC ?_;rw [hcB])|wp_step)
 exact wpAny_raiseNew_none hh hE
end
section
variable {prog:Program} {w:World} {A:Around} {E:Value->Shared->Prop} {s:Shared} {env:Env}
variable {nm q:Str} {C N:Addr} {bs bm bmB:List Value} {hdct:Bool} {sn:List Str} {sub:List Value} {ab:Bool} {col:Option Bool} {dd:Option Addr} {k0 k1 k2 k3 k5:Option Value} {B newId initId:String}
theorem AO (F:ExcBaseFacts B newId initId bmB) {x:Str} {np cpos pos:Pos} {args:List Expr} {Q:Flow->Shared->Prop}
   (hbase:bm.contains (.type "BaseException")=true) (hh:A.handled=none) (hplain:(backTo cpos (starEach args env)).any (·.1)=false)
   (h:wpAny (model prog w) A (eval (.Name x np) env) (fun f s₁=>f=.ref C/\wpAny (model prog w) A (evalArgs (.ref C) true (backTo cpos (starEach args env)) [])
     (fun a s₂=>a.kw=[]/\a.pos.length<=sizeLine/\∃ mN fI oI,s₂.heap.get? C=some (excClassObj nm q C N bs bm hdct sn sub ab col dd k0 k1 k2 k3 k5 newId)/\s₂.heap.Ns N mN/\OwnTail s₂.heap bmB bm/\mN "__init__"=some (.ref fI)/\s₂.heap.get? fI=some oI/\oI.cls=.type "function" /\
       ∀ h' e,Heap.MadeExcOf s₂.heap h' e (.ref C) a.pos->wpAny (model prog w) (A.under (.builtin "type.__call__" ⟨.ref C::a.pos,[]⟩)) (call (.ref fI) (.ref e::a.pos)) (fun r s'=>r=.none /\
         s'.heap.get? C=some (excClassObj nm q C N bs bm hdct sn sub ab col dd k0 k1 k2 k3 k5 newId)/\(∃ a0 od sl,s'.heap.get? e=some { cls:=.ref C,dict:=od,data:=.fields #[a0,.none,.none,.none,.bool false,.none],slots:=sl })/\E (.ref e) s') E { s₂ with heap:=h' }) E s₁) E s) :
   wpAny (model prog w) A (exec (.Raise (some (.Call (.Name x np) args [] cpos)) none pos) env) Q E s:=by
 rw [arm_exec_Raise]
 first
   | refine wpAny_bind (wpAny_standAt (t6 (C:=C) (nm:=nm) (q:=q) (N:=N) (bs:=bs) (bm:=bm) (hdct:=hdct) (sn:=sn) (sub:=sub) (ab:=ab) (col:=col) (dd:=dd) (k0:=k0) (k1:=k1) (k2:=k2) (k3:=k3) (k5:=k5) (newId:=newId) hbase hh (wpAny_bind (wpAny_mono (wpAny_Call_ofName (wpAny_mono h (fun f s₁ h₁=>?_) fun _ _ x=>x)) (fun v s₃ h₃=>wpAny_bind (wpAny_standAt (wpAny_pure h₃))) fun _ _ x=>x))))
   | (simp only [evalOpt,Option.map];refine wpAny_bind (wpAny_standAt (t6 (C:=C) (nm:=nm) (q:=q) (N:=N) (bs:=bs) (bm:=bm) (hdct:=hdct) (sn:=sn) (sub:=sub) (ab:=ab) (col:=col) (dd:=dd) (k0:=k0) (k1:=k1) (k2:=k2) (k3:=k3) (k5:=k5) (newId:=newId) hbase hh (wpAny_bind (wpAny_mono (wpAny_Call_ofName (wpAny_mono h (fun f s₁ h₁=>?_) fun _ _ x=>x)) (fun v s₃ h₃=>wpAny_bind (wpAny_standAt (wpAny_pure h₃))) fun _ _ x=>x)))))
   | (refine wpAny_bind (wpAny_standAt (t6 (C:=C) (nm:=nm) (q:=q) (N:=N) (bs:=bs) (bm:=bm) (hdct:=hdct) (sn:=sn) (sub:=sub) (ab:=ab) (col:=col) (dd:=dd) (k0:=k0) (k1:=k1) (k2:=k2) (k3:=k3) (k5:=k5) (newId:=newId) hbase hh ?_));refine wpAny_bind (wpAny_mono (wpAny_Call_ofName (wpAny_mono h (fun f s₁ h₁=>?_) fun _ _ x=>x)) (fun v s₃ h₃=>wpAny_bind (wpAny_standAt (wpAny_pure h₃))) fun _ _ x=>x))
 obtain ⟨rfl,h₁⟩:=h₁;unfold callWith;refine wpAny_bind (wpAny_holding (wpAny_mono h₁ (fun a s₂ h₂=>wpAny_bind (wpAny_standAt ?_)) fun _ _ x=>x));obtain ⟨apos,akw⟩:=a;obtain ⟨hkw,hlen,mN,fI,oI,hC,hn,T,hi,hf,hfc,h₂⟩:=h₂;obtain rfl:akw=[]:=hkw;obtain ⟨hp,g,d,tk,os⟩:=s₂;simp only [hplain];refine wpAny_bind (wpAny_keeperOf_exc hC ?_);refine wpAny_bind (Ld F T hC hn hi hf hfc (fun h' e hm=>wpAny_mono (h₂ h' e hm) (fun r s' hr=>⟨hr.1,wpAny_bind (wpAny_holding (wpAny_point (wpAny_pure ?_)))⟩) fun _ _ y=>y) hlen);obtain ⟨_,c1,⟨a0,od,sl,c2⟩,c3⟩:=hr;exact ⟨e,a0,od,sl,rfl,c1,c2,c3⟩
end
def ExN (ea:Addr) (cls:Value) (od:Option Addr):HO:=.ext fun h=>∃ a0 sl,h.get? ea=some { cls:=cls,dict:=od,data:=.fields #[a0,.none,.none,.none,.bool false,.none],slots:=sl }
def del (H:Hp) (a:Addr):Hp:=fun b=>if b=a then none else H b
theorem wX {H:Hp} {a b:Addr} (h:b≠a):del H a b=H b:=if_neg h
theorem Ah {H:Hp} {a:Addr}:del H a a=none:=if_pos rfl
section
variable {X:Cx} {pins:List (Addr × Obj)} {σ:St} {H:Hp} {s:Shared}
theorem Inv.trackN {ea:Addr} {cls:Value} {od:Option Addr} (I:Inv X pins σ H s) (l:Loose X pins H ea) (e:∃ a0 sl,s.heap.get? ea=some { cls:=cls,dict:=od,data:=.fields #[a0,.none,.none,.none,.bool false,.none],slots:=sl }):Inv X pins σ (upd H ea (ExN ea cls od)) s:=by
 have ne:∀ b,b≠ea->upd H ea (ExN ea cls od) b=H b:=fun b z=>aq z;have nt:∀ b u,H b=some u->upd H ea (ExN ea cls od) b=some u:=fun b u z=>by rw [ne b (bi z l.un)];exact z
 refine ⟨I.ok,I.os,I.bare,⟨I.base.keep,I.base.slot,fun b o q n x=>?_,I.base.there,fun b xs q=>nt _ _ (I.base.tups b xs q),fun b o u q=>nt _ _ (I.base.frzs b o u q),fun b ps q=>?_⟩,I.loc,I.cell,?_,fun x c q=>?_,fun p hp=>?_,?_,I.len⟩
 . rw [ne b (by rintro rfl;rw [l.new] at q;cases q)];exact I.base.free b o q n x
 . obtain ⟨more,z⟩:=I.base.tbls b ps q;exact ⟨more,nt _ _ z⟩
 . rw [ne _ (Ne.symm l.loc)];exact I.free
 . rw [ne _ (l.cel x c q)];exact I.freeC x c q
 . obtain ⟨z1,z2,z3,z4,z5⟩:=I.pin p hp;exact ⟨z1,by rw [ne _ (l.pin p hp)];exact z2,z3,z4,z5⟩
 . intro b u q;by_cases z:b=ea
   . subst z;rw [ah] at q;cases q;obtain ⟨a0,sl,h1⟩:=e;refine ⟨⟨a0,sl,h1⟩,⟨_,h1⟩,?_⟩;rintro g1 g2 ⟨a,l,a1⟩ kk;exact ⟨a,l,kk _ a1⟩
   . rw [ne b z] at q;exact (I.hok b u q).stay (fun _ _ _ r=>r) (fun c r=>nt _ _ r) fun c xs r=>nt _ _ r
theorem Inv.untrack {ea:Addr} {φ:Heap->Prop} (I:Inv X pins σ H s) (e:H ea=some (.ext φ)):Inv X pins σ (del H ea) s:=by
 have nt:∀ b u,H b=some u->b≠ea->del H ea b=some u:=fun b u z n=>by rw [wX n];exact z
 have nn:∀ b,H b=none->del H ea b=none:=fun b z=>by
   by_cases q:b=ea
   . rw [q,Ah]
   . rw [wX q];exact z
 refine ⟨I.ok,I.os,I.bare,⟨I.base.keep,I.base.slot,fun b o q n x=>nn _ (I.base.free b o q n x),I.base.there,fun b xs q=>?_,fun b o u q=>?_,fun b ps q=>?_⟩,I.loc,I.cell,nn _ I.free,fun x c q=>nn _ (I.freeC x c q),fun p hp=>?_,?_,I.len⟩
 . have z:=I.base.tups b xs q;exact nt _ _ z (by rintro rfl;rw [e] at z;cases z)
 . have z:=I.base.frzs b o u q;exact nt _ _ z (by rintro rfl;rw [e] at z;cases z)
 . obtain ⟨more,z⟩:=I.base.tbls b ps q;exact ⟨more,nt _ _ z (by rintro rfl;rw [e] at z;cases z)⟩
 . obtain ⟨z1,z2,z3,z4,z5⟩:=I.pin p hp;exact ⟨z1,nn _ z2,z3,z4,z5⟩
 . intro b u q;have nb:b≠ea:=by rintro rfl;rw [Ah] at q;cases q
   rw [wX nb] at q;exact (I.hok b u q).stay (fun _ _ _ r=>r) (fun c r=>nt _ _ r (by rintro rfl;rw [e] at r;cases r)) fun c xs r=>nt _ _ r (by rintro rfl;rw [e] at r;cases r)
end
def IW (X:Cx) (E:XK):Prop:=∀ (pins:List (Addr × Obj)) (σ:St) (H:Hp) (s:Shared) (ea:Addr) (cls:Value) (od:Option Addr),Inv X pins σ H s->jQ s.heap ea cls od .none->Loose X pins H ea->E cls od H->X.xe (.ref ea) s
section
variable {P:Program} {w:World} {K:PySem.W.Frag} {mg:Str->Option Value} {base:Heap} {N:List Str} {qual:Str} {scope:Scope} {f:Addr} {cd:Value} {A:Around} {outer:List Env} {s:Shared} {H:Hp} {E:XK}
theorem S4:IW (lg (CXe P w) P w K mg base N qual scope f cd A outer s H E) E:=by
 intro pins σ H1 s1 ea cls od J er le q;refine Dx (base:=base) J.ok.frames J.stack rfl er fun h2 T' er' k nT=>?_;have fr:∀ b∈frs (envOfC qual scope s.heap.objs.size f cd::outer),H1 b=none:=J.stkFree;refine ⟨ea,T',cls,od,H1,rfl,J.os,J.bare,Ae J k ?_,uc J.hok k fr ?_,le.un,xb J.hok nT,le.new,kU J nT,er',q⟩
 . intro b hb;rw [List.mem_singleton.mp hb];exact le.new
 . intro b hb;rw [List.mem_singleton.mp hb];exact le.un
end
theorem LN {K:PySem.W.Frag} {h:Heap} {N:Addr} {mg:Str->Option Value} {n:Str} {v:Value} (X:K.In h) (G:h.Ns N mg) (e:PySem.W.nsIn K N n=some (some v)):mg n=some v:=by
 obtain ⟨o,es,ep,ho,hd,_,hf⟩:=G;unfold PySem.W.nsIn at e;split at e
 . rename_i c d es' n' sl q
   have:=X _ _ q;rw [ho] at this;cases this;cases hd;split at e
   . rename_i en he
     cases e;rw [<- hf];unfold nsFind findBy;rw [<- Array.find?_toList,he]
     rfl
   . rename_i he
     split at e <;> cases e
 . cases e
def y8 (K:PySem.W.Frag) (C fI:Addr):Prop:=∃ (nm qn:Str) (N:Addr) (bs bm:List Value) (hdct:Bool) (sn:List Str) (sub:List Value) (ab:Bool) (col:Option Bool) (dd:Option Addr) (k0 k1 k2 k3 k5:Option Value),
   K.lookup C=some (excClassObj nm qn C N bs bm hdct sn sub ab col dd k0 k1 k2 k3 k5 "ValueError.__new__")/\PySem.W.nsOkIn K N=true/\PySem.W.nsIn K N "__init__"=some (some (.ref fI))/\PySem.W.tailIn K bmV bm=true/\PySem.W.isFn K (.ref fI)=true
def S0 (C:Addr) (sp:Sp) (E:XK) (t:TA):TS:=fun _ σ H=>t σ H fun vs H1=>vs.length<=sizeLine/\∀ ea,H1 ea=none->sp (.ref ea::vs) (upd H1 ea (ExN ea (.ref C) none)) (fun v H2=>v=.non/\∃ od,H2 ea=some (ExN ea (.ref C) od)/\E (.ref C) od (del H2 ea)) fun _ _ _=>False
section
variable {X:Cx} {x:Str} {np cpos pos:Pos} {e0:Expr} {es:List Expr} {t:TA} {C fI:Addr} {E:XK} {CX:CXT} {k:Nat} {fd:FuncData} {ps:List Str} {sp:Sp}
theorem Nn (q:y8 X.K C fI) (F:FnOk X.prog X.w X.K X.mg X.base CX k fI fd ps sp) (hq:aV CX) (hr:Room (k+1) X.A) (hb:Binds X.K fd ps []) (hx:X.ex=[]) (hc:X.calm=true) (hR:IW X E) (hg:Gl X x) (hm:X.mg x=some (.ref C)) (ha:PA X (e0::es) t) (hdb:(x == ("__debug__":Str))=false:=by decide)
   (he:starEach (e0::es) X.env=(false,eval e0 X.env)::starEach es X.env:=by rfl) (hpl:(backTo cpos (starEach es X.env)).any (·.1)=false:=by rfl):PS X (.Raise (some (.Call (.Name x np) (e0::es) [] cpos)) none pos) (S0 C sp E t):=by
 intro pins s σ H D I h;obtain ⟨nm,qn,N,bs,bm,hdct,sn,sub,ab,col,dd,k0,k1,k2,k3,k5,ho,z5,z6,z4,z7⟩:=q;have B:=I.mod.kin;have T0:=PySem.W.tail_of_in B z4;have N0:X.base.Ns N (X.base.nsMap N):=.of_isNs (PySem.W.isNs_of_in B z5);have n0:=LN B N0 z6;obtain ⟨oI,lI,cI⟩:∃ oI,X.K.lookup fI=some oI/\oI.cls=.type "function":=by
   have z:=beq_iff_eq.mp z7;unfold PySem.W.typeIn at z;exact Option.map_eq_some_iff.mp z
 have hp:(backTo cpos (starEach (e0::es) X.env)).any (·.1)=false:=by
   rw [he];show (false || (backTo cpos (starEach es X.env)).any (·.1))=false;rw [hpl]
   rfl
 refine AO (C:=C) (nm:=nm) (q:=qn) (N:=N) (bs:=bs) (bm:=bm) (hdct:=hdct) (sn:=sn) (sub:=sub) (ab:=ab) (col:=col) (dd:=dd) (k0:=k0) (k1:=k1) (k2:=k2) (k3:=k3) (k5:=k5) PySem.F.excBase_ValueError
   (T0.hasType (by decide +kernel)) (I.ok.hd hc) hp (jG I hg hm ⟨rfl,?_⟩ hdb)
 have g:=ha cpos pins s σ H _ I h;rw [he] at g ⊢;refine Calls.evalArgs_plain (thn g fun us s1 ⟨vs,H1,I1,r1,q1⟩=>⟨rfl,by show us.length<=_;rw [<- r1.length];exact q1.1,X.base.nsMap N,fI,oI,I1.bk _ _ (B _ _ ho),N0.keeps I1.bk,T0.keeps I1.bk,n0,I1.bk _ _ (B _ _ lI),cI,fun h' ea m=>?_⟩);obtain ⟨tt,m1,_,_⟩:=m.there;have le:Loose X pins H1 ea:=by
   obtain ⟨a1,a2,a3⟩:=I1.apart m.new;refine ⟨xb I1.hok m.new,?_,a1,a2,a3⟩;rcases I1.young m.new with y|y
   . exact y
   . rw [hx] at y;cases y
 have I2:Inv X pins σ (upd H1 ea (ExN ea (.ref C) none)) { s1 with heap:=h' }:=Inv.trackN (I1.kept (t':=s1.toks) m.keeps) le ⟨_,_,m1⟩;have sp1:=q1.2 ea le.un;have r2:Vals (V.ref ea::vs) (Value.ref ea::us):=.cons rfl r1;have hl:(Value.ref ea::us).length=ps.length:=by rw [<- r2.length];exact F.len _ _ _ _ sp1
 refine wpAny_call (codeAny_mono (F.run _ X.stack _ _ ⟨Value.ref ea::us,[]⟩ (Value.ref ea::us) _ _ _ (hr.make C us []) (I2.env0.make C us []) (by have:=hb { s1 with heap:=h' } (Value.ref ea::us) I2.kIn (by rw [List.append_nil];exact hl);rw [List.append_nil] at this;exact this) r2 sp1) fun r s' hq'=>?_);cases r with
 | error e=>exact (hq _ _ _ _ _ hq').elim
 | ok fl =>
   cases fl with
   | ret u =>
     obtain ⟨v,H',I3,rv,ev,od,e3,q3⟩:=I2.after hq';subst ev;obtain rfl:u=Value.none:=rv;obtain ⟨⟨a0,sl,e4⟩,_,_⟩:=(show ObjOk X.prog X.w H' s'.heap ea (ExN ea (.ref C) od) from I3.hok ea _ e3);refine ⟨rfl,I3.bk _ _ (B _ _ ho),⟨a0,od,sl,e4⟩,?_⟩;refine hR pins σ (del H' ea) s' ea (.ref C) od (I3.untrack e3) ⟨_,_,e4,rfl,rfl,rfl,rfl,rfl⟩ ⟨Ah,le.new,le.loc,le.cel,le.pin⟩ q3
   | next=>exact False.elim hq'
   | brk=>exact False.elim hq'
   | cont=>exact False.elim hq'
end
structure BaseIn (K:PySem.W.Frag) (Tl:Addr):Prop where
 ga:PySem.W.specialIn K (.ref Tl) "__getattribute__"=some (some (.builtin "type.__getattribute__"))
 rd:PySem.W.readsIn K Tl (.type "type")=true
 fd:PySem.W.findCls K (.ref Tl) (.type "type") "__init__"=some (.val (.builtin "ValueError.__init__"))
def OI (K:PySem.W.Frag) (t:TA):TE:=fun σ H Q=>t σ H fun vs H1=>∃ ea C fI od cL,vs=.ref ea::cL/\cL.length<=sizeLine/\y8 K C fI/\H1 ea=some (ExN ea (.ref C) od)/\Q .non H1
section
variable {X:Cx} {x:Str} {np apos pos:Pos} {e0:Expr} {es:List Expr} {t:TA} {Tl:Addr} {pl:Sem Bool}
theorem Hl (b:BaseIn X.K Tl) (hg:Gl X x) (hm:X.mg x=some (.ref Tl)) (ha:PA X (e0::es) t) (hdb:(x == ("__debug__":Str))=false:=by decide)
   (he:starEach (e0::es) X.env=(false,eval e0 X.env)::starEach es X.env:=by rfl) (hpl:(backTo pos (starEach es X.env)).any (·.1)=false:=by rfl)
   (ht:eval (.Call (.Attribute (.Name x np) "__init__" apos) (e0::es) [] pos) X.env=(do
     let ov <- eval (.Name x np) X.env
     standAt apos.atName
     let (f,first) <- holding [ov] (getMethod ov "__init__" pl)
     callWith pos f first (backTo pos (starEach (e0::es) X.env)) (backToKw pos (keywordEach [] X.env))):=by rfl) :
   PE X (.Call (.Attribute (.Name x np) "__init__" apos) (e0::es) [] pos) (OI X.K t):=by
 intro pins s σ H Q I h;refine PySem.W.methodCall_KW (pl:=pl) (jG I hg hm ?_ hdb) ht;refine PySem.W.method_cls I.kIn b.ga (PySem.W.cls_value I.kIn b.rd b.fd (by decide +kernel) ?_);have I0:=I.tok (s.toks+1);have g0:=ha pos pins _ σ H _ I0 h;rw [he] at g0 ⊢;refine PySem.W.callWith_of (P:=fun _=>True) (by show ((false || (backTo pos (starEach es X.env)).any (·.1)) || false)=false;rw [hpl];rfl) (fun h _=>⟨.machine,.inr (.inl rfl),.now⟩) (Calls.evalArgs_plain (thn g0 fun us s1 ⟨vs,H1,I1,r1,ea,C,fI,od,cL,ev,hl,q,e1,q1⟩=>⟨trivial,?_⟩));subst ev;obtain ⟨u,us',rfl,ru,rr⟩:∃ u us',us=u::us'/\RelV (.ref ea) u/\Vals cL us':=by cases r1 with|cons a c=>exact ⟨_,_,rfl,a,c⟩
 obtain rfl:u=Value.ref ea:=ru;obtain ⟨nm,qn,N,bs,bm,hdct,sn,sub,ab,col,dd,k0,k1,k2,k3,k5,ho,z5,z6,z4,z7⟩:=q;have B:=I.mod.kin;have T0:=(PySem.W.tail_of_in B z4).keeps I1.bk;have hC:=I1.bk _ _ (B _ _ ho);obtain ⟨⟨a0,sl,e4⟩,_,_⟩:=(show ObjOk X.prog X.w H1 s1.heap ea (ExN ea (.ref C) od) from I1.hok ea _ e1);have F:=PySem.F.excBase_ValueError;obtain ⟨hp,g,d,tk,os⟩:=s1;refine wpAny_call (codeAny_call_builtin F.init.plain F.initEntry (wpAny_check_init_subT F T0 hC e4 rfl ?_))
 wp_walk
 have ul:us'.length=cL.length:=rr.length.symm;rw [if_neg (by rw [List.size_toArray];omega)]
 wp_walk
 have lt:ea<hp.objs.size:=Heap.lt_size e4;have e5:(hp.push { cls:=Value.type "tuple",data:=Data.seq us'.toArray }).get? ea=some { cls:=.ref C,dict:=od,data:=.fields #[a0,.none,.none,.none,.bool false,.none],slots:=sl }:=Heap.get?_push_of_some _ e4;have fin:EP X pins σ Q .none ⟨(hp.push { cls:=Value.type "tuple",data:=Data.seq us'.toArray }).update ea (Obj.mapFields fun x=>x.setIfInBounds 0 (Value.ref hp.objs.size)),g,d,tk,os⟩:=by
   have e6:=Heap.get?_update_self (Obj.mapFields fun x=>x.setIfInBounds 0 (Value.ref hp.objs.size)) e5 rfl;have I2:=I1.write (x:=ea) (e:=ea) (o:=ExN ea (.ref C) od) (t':=tk) (h':=(hp.push { cls:=Value.type "tuple",data:=Data.seq us'.toArray }).update ea (Obj.mapFields fun x=>x.setIfInBounds 0 (Value.ref hp.objs.size))) (by rw [e1];trivial) (.inl rfl) (fun b u n z=>by rw [Heap.get?_update_other _ _ (Ne.symm n)];exact Heap.get?_push_of_some _ z) ⟨_,e6⟩
     ⟨⟨_,_,e6⟩,⟨_,e6⟩,by
       rintro g1 g2 ⟨a,l,a1⟩ kk;exact ⟨a,l,kk _ a1⟩⟩
   have es:upd H1 ea (ExN ea (.ref C) od)=H1:=by
     funext b
     by_cases z:b=ea
     . rw [z,ah,e1]
     . rw [aq z]
   rw [es] at I2;exact ⟨.non,H1,I2,rfl,q1⟩
 show wpAny _ _ (match a0 with|Value.ref a=>letGo [a0]|x=>pure ()) _ _ _;cases a0 with
 | ref a=>exact wpAny_letGo (wpAny_pure fin)
 | _=>exact wpAny_pure (wpAny_pure fin)
end
end L2
set_option Elab.async false
set_option linter.all false
set_option maxRecDepth 100000
namespace L2
open PySem PySem.Spec PyProof.Rows PySem.W PySem.Builtin PySem.Builtin.ObjectAttr
theorem Kz (self:Value):refuseLoop self "__setattr__" bmV=pure ():=by kernel_rfl
section
variable {K:PySem.W.Frag} {prog:Program} {w:World} {A:Around} {s:Shared} {x C Tl:Addr} {R:Result->Shared->Prop}
theorem SX {ox:Obj} {od:Option Obj} {name:Str} {tk:Tok} {v:Value} {cd:ClassData} (X:K.In s.heap) (I:PySem.W.InstAt s.heap x ox C od) (hc:PySem.W.clsIn K C=some cd) (hmro:cd.mro=.ref C::.ref Tl::bmV) (ht:PySem.W.takerIn K C name=some none)
   (h:∀ b,wpAny (model prog w) A.in1 (storeInOwnDict (.ref x) (.ref C) (.str name tk) name v b)
     (fun fin s'=>match fin with|.done f=>R (.ok f) s'|.again c'=>c'.quiet=true/\codeAny (model prog w) A c' R s') (fun e s'=>R (.error e) s') s) :
   codeAny (model prog w) A (.call (.builtin "object.__setattr__") ⟨[.ref x,.str name tk,v],[]⟩) R s:=by
 have SF:=PySem.F.store_object;have ne:cd.mro.isEmpty=false:=by rw [hmro];rfl
 have sub:PySem.W.Looks (model prog w) s.heap (isInstance (.ref x) (.type "object")) true:=I.type.andThen (PySem.W.looks_mroIn X (by unfold PySem.W.mroIn;rw [hc,Option.bind_some,if_neg (by rw [ne];decide),hmro];simp));refine codeAny_call_builtin SF.slot.plain SF.entry (@check_slot (model prog w) _ _ s "object.__setattr__" "object" "__setattr__" (.ref x) [.str name tk,v] [] _ SF.kind SF.split sub (SF.args (.ref x) (.str name tk) v) ?_);obtain ⟨attr,ha,hr⟩:=Option.bind_eq_some_iff.mp ht;have hm:PySem.W.Looks (model prog w) s.heap (mroOf (.ref C)) cd.mro:=(PySem.W.looks_clsIn X hc).andThen .now;have L3:PySem.W.Looks (model prog w) s.heap (storeTaker? attr) none:=by
   cases attr with
   | none=>exact .now
   | some a =>
     obtain ⟨b,hb,z⟩:=Option.map_eq_some_iff.mp hr;refine (PySem.W.looks_takesIn X hb).andThen ?_;cases b
     . exact .now
     . cases z
 rw [PySem.W.osa_eq,refuse_eq];refine wpAny_bind (wpAny_bind (I.type.here (wpAny_bind (hm.here ?_))));rw [hmro,refuseLoop_ref,refuseLoop_ref,Kz];refine wpAny_pure (wpAny_bind (I.type.here (wpAny_bind ((PySem.W.looks_findIn X ha).here (wpAny_bind (L3.here ?_))))));exact h _
theorem Oj {name:Str} {tk:Tok} {v:Value} {b:Bool} {oe:Obj} {vs:Array Value} {cd:ClassData} {Q:Fin->Shared->Prop} {E:Value->Shared->Prop} (X:K.In s.heap) (he:s.heap.get? x=some oe) (h1:oe.cls=.ref C) (h2:oe.dict=none) (h3:oe.data=.fields vs) (hc:PySem.W.clsIn K C=some cd) (hh:cd.hasDict=true)
   (h:∀ h' dx,s.heap.get? dx=none->h'.get? x=some { oe with dict:=some dx }->h'.Ns1 dx (fun y=>if y=name then some v else none)->(∀ c o,c≠x->s.heap.get? c=some o->h'.get? c=some o)->Q (.done (.ret .none)) { s with heap:=h',toks:=s.toks+1 }) :
   wpAny (model prog w) A (storeInOwnDict (.ref x) (.ref C) (.str name tk) name v b) Q E s:=by
 obtain ⟨hp,g,d,t,os⟩:=s;have L:=PySem.W.looks_clsIn (M:=model prog w) X hc;unfold storeInOwnDict ownDictForStores instanceDict;refine wpAny_bind (wpAny_pure ?_);simp only [show (Value.ref C == Value.type "module")=false from rfl,Bool.false_eq_true,if_false];refine wpAny_bind (wpAny_bind (wpAny_loadPart_at he ?_));rw [h1];refine wpAny_bind (L.at ?_);rw [hh,h2,h3];show wpAny _ _ (do let d <- alloc { cls:=Value.type "dict",data:=Data.dict #[] };update x fun o=>{ cls:=o.cls,dict:=some d,data:=o.data,slots:=o.slots };dictMade (Value.ref C) x d) _ _ _;have ex:=Heap.get?_push_of_some { cls:=Value.type "dict",data:=Data.dict #[] } he;have lt:x<hp.objs.size:=Heap.lt_size he;refine wpAny_bind (wpAny_alloc' (wpAny_bind (wpAny_update' (o:=oe) ex ?_)));show wpAny _ _ (pure (some hp.objs.size)) _ _ _;refine wpAny_pure ?_;show wpAny _ _ (storeInDict hp.objs.size (Value.str name tk) name v) _ _ _;unfold storeInDict;refine wpAny_bind (wpAny_pure (wpAny_bind ?_));have ed:((hp.push { cls:=Value.type "dict",data:=Data.dict #[] }).update x fun o=>{ cls:=o.cls,dict:=some hp.objs.size,data:=o.data,slots:=o.slots }).get? hp.objs.size=some { cls:=Value.type "dict",data:=Data.dict #[] }:=by
   rw [Heap.get?_update_other _ _ (Nat.ne_of_lt lt)];exact Heap.get?_push_size _ rfl
 have ns:((hp.push { cls:=Value.type "dict",data:=Data.dict #[] }).update x fun o=>{ cls:=o.cls,dict:=some hp.objs.size,data:=o.data,slots:=o.slots }).Ns1 hp.objs.size (fun _=>none):=by
   refine ⟨_,#[],_,ed,rfl,?_,?_,fun _=>rfl⟩
   . intro e he;simp at he
   . first|exact uniqKeys_empty|(unfold UniqKeys;simp)|(intro i j;simp)|decide
 refine wpAny_nsSet1 (s:=⟨_,g,d,t,os⟩) ns fun h' hn2 hs2=>?_;obtain ⟨oD,esD,epD,hoD,hdD,hcD⟩:=hn2.count (PySem.Within.cons name v (ns:=[]) (fun _ z=>(z rfl).elim));refine wpAny_bind (wpAny_lookBehind hoD (by rw [hdD];exact pastItsLine_dict (Nat.le_trans hcD (by show 1<=sizeLine+1;omega))) ?_);refine wpAny_pure (h h' hp.objs.size (Heap.get?_none_of_le (Nat.le_refl _)) ?_ hn2 fun c o nc e=>?_)
 . rw [hs2.2 _ (Nat.ne_of_lt lt),Heap.get?_update_self _ ex (Obj.isFreed_of_fields h3)]
 . have lc:=Heap.lt_size e;rw [hs2.2 _ (Nat.ne_of_lt lc),Heap.get?_update_other _ _ (Ne.symm nc)];exact Heap.get?_push_of_some _ e
end
section
variable {X:Cx} {pins:List (Addr × Obj)} {σ:St} {H:Hp} {s:Shared}
theorem Inv.trackO {a:Addr} {o:HO} (I:Inv X pins σ H s) (l:Loose X pins H a) (ok:ObjOk X.prog X.w (upd H a o) s.heap a o):Inv X pins σ (upd H a o) s:=by
 have ne:∀ b,b≠a->upd H a o b=H b:=fun b z=>aq z;have nt:∀ b u,H b=some u->upd H a o b=some u:=fun b u z=>by rw [ne b (bi z l.un)];exact z
 refine ⟨I.ok,I.os,I.bare,⟨I.base.keep,I.base.slot,fun b o q n x=>?_,I.base.there,fun b xs q=>nt _ _ (I.base.tups b xs q),fun b o u q=>nt _ _ (I.base.frzs b o u q),fun b ps q=>?_⟩,I.loc,I.cell,?_,fun x c q=>?_,fun p hp=>?_,?_,I.len⟩
 . rw [ne b (by rintro rfl;rw [l.new] at q;cases q)];exact I.base.free b o q n x
 . obtain ⟨more,z⟩:=I.base.tbls b ps q;exact ⟨more,nt _ _ z⟩
 . rw [ne _ (Ne.symm l.loc)];exact I.free
 . rw [ne _ (l.cel x c q)];exact I.freeC x c q
 . obtain ⟨z1,z2,z3,z4,z5⟩:=I.pin p hp;exact ⟨z1,by rw [ne _ (l.pin p hp)];exact z2,z3,z4,z5⟩
 . intro b u q;by_cases z:b=a
   . subst z;rw [ah] at q;cases q;exact ok
   . rw [ne b z] at q;exact (I.hok b u q).stay (fun _ _ _ r=>r) (fun c r=>nt _ _ r) fun c xs r=>nt _ _ r
end
structure XSet (K:PySem.W.Frag) (C Tl:Addr) (f:Str):Prop where
 sa:PySem.W.findIn K (.ref C) "__setattr__"=some (some (.builtin "object.__setattr__"))
 cd:∃ cd,PySem.W.clsIn K C=some cd/\cd.mro=.ref C::.ref Tl::bmV/\cd.hasDict=true
 tk:PySem.W.takerIn K C f=some none
section
variable {X:Cx} {pins:List (Addr × Obj)} {σ:St} {H:Hp} {s:Shared} {A:Around} {E:Value->Shared->Prop} {ea C Tl:Addr} {f:Str}
theorem Sn {y:V} {u:Value} {Q:Unit->Shared->Prop} (h0:X.ex=[]) (I:Inv X pins σ H s) (e:H ea=some (ExN ea (.ref C) none)) (c:XSet X.K C Tl f) (ry:RelV y u)
   (h:∀ s' dx,H dx=none->dx≠ea->Inv X pins σ (upd (upd H ea (ExN ea (.ref C) (some dx))) dx (.xd [(f,y)])) s'->Q () s'):wpAny (model X.prog X.w) A (setAttr (.ref ea) f u) Q E s:=by
 obtain ⟨⟨a0,sl,e4⟩,_,_⟩:=(show ObjOk X.prog X.w H s.heap ea (ExN ea (.ref C) none) from I.hok ea _ e);obtain ⟨cd,hc,hm,hd⟩:=c.cd;have J:PySem.W.InstAt s.heap ea _ C none:=⟨e4,rfl,rfl,trivial⟩;refine PySem.W.set_plain I.kIn J c.sa (SX (s:={ s with toks:=s.toks+1 }) (Tl:=Tl) I.kIn J hc hm c.tk fun b=>Oj (s:={ s with toks:=s.toks+1 }) I.kIn e4 rfl rfl rfl hc hd fun h' dx nd hx hn kp=>?_);have ne:dx≠ea:=fun z=>by rw [z] at nd;rw [show s.heap.get? ea=none from nd] at e4;cases e4
 have hu:=xb I.hok nd;have I2:=I.write (x:=ea) (e:=ea) (o:=ExN ea (.ref C) (some dx)) (t':=s.toks+1+1) (h':=h') (by rw [e];trivial) (.inl rfl) (fun b u n z=>kp b u n z) ⟨_,hx⟩
   ⟨⟨_,_,hx⟩,⟨_,hx⟩,by
     rintro g1 g2 ⟨a,l,a1⟩ kk;exact ⟨a,l,kk _ a1⟩⟩
 have l2:Loose X pins (upd H ea (ExN ea (.ref C) (some dx))) dx:=by
   obtain ⟨a1,a2,a3⟩:=I.apart nd;refine ⟨by rw [aq ne];exact hu,?_,a1,a2,a3⟩;rcases I.young nd with z|z
   . exact z
   . rw [h0] at z;cases z
 refine h _ dx hu ne (I2.trackO l2 ⟨_,hn,fun g=>?_⟩);show RelO (List.lookup g [(f,y)]) (if g=f then some u else none);by_cases q:g=f
 . rw [if_pos q,q,List.lookup_cons_self];exact ry
 . rw [if_neg q,List.lookup_cons,show (g == f)=false from by simpa using q];trivial
end
def Us (K:PySem.W.Frag) (ta tv:TE) (f:Str):TS:=fun D σ H=>tv σ H fun y H1=>ta σ H1 fun x H2=>∃ ea C Tl,x=.ref ea/\H2 ea=some (ExN ea (.ref C) none)/\XSet K C Tl f/\∀ dx,H2 dx=none->dx≠ea->D.nx σ (upd (upd H2 ea (ExN ea (.ref C) (some dx))) dx (.xd [(f,y)]))
section
variable {X:Cx} {o value:Expr} {ta tv:TE} {f:Str} {pos pos':Pos}
theorem Sb (h0:X.ex=[]) (ha:PE X o ta) (hv:PE X value tv) (hs:swapsWith value (some (.Attribute o f pos')) pos.line X.env=pure false):PS X (.Assign [.Attribute o f pos'] value pos) (Us X.K ta tv f):=by
 intro pins s σ H D I h;refine plainObj_wpAny_Assign_Attribute (bn (hv pins s σ H _ I h) fun u s1 y H1 I1 ry q=>bn (ha pins s1 σ H1 _ I1 q) fun ov s2 x H2 I2 rx ⟨ea,C,Tl,ex,e2,c,q2⟩=>?_) hs;subst ex;obtain rfl:ov=Value.ref ea:=rx;exact Sn h0 I2 e2 c ry fun s3 dx n1 n2 I3=>⟨σ,_,I3,q2 dx n1 n2⟩
end
section
variable {prog:Program} {w:World} {A:Around} {E:Value->Shared->Prop} {s:Shared} {K:PySem.W.Frag} {x C:Addr} {ox:Obj} {od:Obj}
theorem Sk {name:Str} {v:Value} {expr:Bool} {Q:Value->Shared->Prop} (X:K.In s.heap) (I:PySem.W.InstAt s.heap x ox C (some od)) (c:XCls K C) (ha:PySem.W.findIn K (.ref C) name=some none) (hl:PySem.W.lookIn name od=some (some v)) (hv:PySem.W.handedIn v=true)
   (h:Q v { s with toks:=s.toks+1 }):wpAny (model prog w) A (getAttr (.ref x) name expr) Q E s:=by
 obtain ⟨hh,g,dr,t,os⟩:=s;have L0:=I.type (M:=model prog w);have L1:=PySem.W.looks_findIn (M:=model prog w) X c.ga;have L2:=PySem.W.looks_findIn (M:=model prog w) X c.gt;have L3:=PySem.W.looks_find (M:=model prog w) X I (PySem.W.findObj_own c.hd ha rfl hl);have n2:(Value.builtin "BaseException.__getattribute__" == Value.builtin "object.__getattribute__")=false:=by decide +kernel
 have n1:(onTheHeap (Value.ref C) && Value.builtin "BaseException.__getattribute__" == Value.builtin "object.__getattribute__")=false:=by rw [n2];rfl
 have b1:=F.excAttr_ValueError.ga.bind (.ref x);refine wpAny_bind (wpAny_mkText (wpAny_holding (wpAny_bind (L0.at (wpAny_bind (L1.at ?_))))));dsimp only;rw [n1];simp only [Bool.false_eq_true,if_false];unfold getAttrByItsOwn hookBefore callGetattribute boundAndCalled;simp only [onTheHeap,Bool.and_false,Bool.false_eq_true,if_false,if_true];refine wpAny_bind (L2.at (wpAny_bind (wpAny_attempt (wpAny_holding (wpAny_bind (wpAny_of_eq b1 ?_))))));refine wpAny_call (codeAny_call_builtin F.excAttr_ValueError.ga.plain F.entry_bexc_ga (DA X I c ?_));unfold Builtin.«object.__getattribute__»
 repeat lk
 show wpAny _ _ (handedOut v) _ _ _;exact PySem.W.handed_on hv h
end
def RQ (K:PySem.W.Frag) (f:Str) (x:V) (H:Hp) (Q:VK):Prop:=∃ ea C dx fs v,x=.ref ea/\H ea=some (ExO ea (.ref C) (some dx))/\XCls K C/\PySem.W.findIn K (.ref C) f=some none/\H dx=some (.xd fs)/\fs.lookup f=some v/\Q v H
section
variable {X:Cx} {o:Expr} {ta:TE} {f:Str} {pos:Pos}
theorem ST {pins:List (Addr × Obj)} {σ:St} {H:Hp} {s:Shared} {x:V} {ov:Value} {Q:VK} {b:Bool} (I:Inv X pins σ H s) (rx:RelV x ov) (h:RQ X.K f x H Q):wpAny (model X.prog X.w) X.A (getAttr ov f b) (EP X pins σ Q) X.xe s:=by
 obtain ⟨ea,C,dx,fs,v,rfl,he,c,hn,hd,hl,q⟩:=h;obtain rfl:ov=Value.ref ea:=rx;obtain ⟨⟨oe,vs,h1,h2,h3,h4,_⟩,_,_⟩:=(show ObjOk X.prog X.w H s.heap ea (ExO ea (.ref C) (some dx)) from I.hok ea _ he);obtain ⟨mA,ns,rl⟩:=(show ObjOk X.prog X.w H s.heap dx (.xd fs) from I.hok dx _ hd);obtain ⟨od,ho,lk⟩:=Db ns;obtain ⟨u,hu,ru⟩:=RelO.some_of (v:=v) (o:=mA f) (by rw [<- hl];exact rl f);have J:PySem.W.InstAt s.heap ea oe C (some od):=⟨h1,h2,by unfold PySem.W.notCls;rw [h4],by rw [h3];exact ho⟩;exact Sk I.kIn J c hn (by rw [lk,hu]) (C9 ru) ⟨v,H,I.tok _,ru,q⟩
theorem SD (K:PySem.W.Frag) (hK:X.K=K) (he:PE X o ta) (hb:attributeBase o f X.env (eval o X.env)=eval o X.env):PE X (.Attribute o f pos) (fun σ H Q=>ta σ H fun x H1=>RQ K f x H1 Q):=by
 subst hK;intro pins s σ H Q I h;exact IM hb (bn (he pins s σ H _ I h) fun u s1 x H1 I1 rx q=>ST I1 rx q)
end
theorem SA {K:PySem.W.Frag} {C Tl:Addr} {f:Str} {c0:Value} {dd:Option Addr} {cd:ClassData} {sl:Array (Option Value)} (l:K.lookup C=some ⟨c0,dd,.cls cd,sl⟩) (m:cd.mro=.ref C::.ref Tl::bmV) (h:PySem.W.hasDictIn K C=true)
   (s:PySem.W.findIn K (.ref C) "__setattr__"=some (some (.builtin "object.__setattr__"))) (a:PySem.W.findIn K (.ref C) f=some none):XSet K C Tl f:=by
 obtain ⟨cd',e,hd⟩:=PySem.W.any_some h;have e2:PySem.W.clsIn K C=some cd:=by unfold PySem.W.clsIn;rw [l]
 rw [e2] at e;cases e;exact ⟨s,⟨cd,e2,m,hd⟩,by unfold PySem.W.takerIn;rw [a];rfl⟩
theorem Ry {K:PySem.W.Frag} {C fI:Addr} {o:Obj} (nm qn:Str) (N:Addr) (bs bm:List Value) (hdct:Bool) (sn:List Str) (sub:List Value) (ab:Bool) (col:Option Bool) (dd:Option Addr) (k0 k1 k2 k3 k5:Option Value) (l:K.lookup C=some o)
   (e:o=excClassObj nm qn C N bs bm hdct sn sub ab col dd k0 k1 k2 k3 k5 "ValueError.__new__") (a:PySem.W.nsOkIn K N=true) (b:PySem.W.nsIn K N "__init__"=some (some (.ref fI))) (c:PySem.W.tailIn K bmV bm=true) (d:PySem.W.isFn K (.ref fI)=true):y8 K C fI:=by
 subst e;exact ⟨_,_,_,_,_,_,_,_,_,_,_,_,_,_,_,_,l,a,b,c,d⟩
end L2
set_option Elab.async false
set_option linter.all false
set_option maxRecDepth 100000
namespace L2
open PySem
def NL (K:PySem.W.Frag) (C':Addr) (ts:TS) (tr:TH):TH:=fun D σ cls od H=>∃ C b,cls=.ref C/\PySem.W.mroIn K C (.ref C')=some b/\if b=true then ts D σ H else tr D σ cls od H
section
variable {X:Cx} {x:Str} {np pos:Pos} {C':Addr} {b0:Stmt} {suite:List Stmt} {cL:List ExceptHandler} {ts:TS} {tr:TH}
end
end L2
namespace Pb
open L2 PySem
theorem Sa {H:Hp} {ea dx:Addr} {a b c:HO} (ne:H ea=none) (nd:upd H ea a dx=none) (nde:dx≠ea):Same H (del (upd (upd (upd H ea a) ea b) dx c) ea):=fun q o e=>by
 have n1:q≠ea:=bi e ne;have n2:q≠dx:=fun z=>by rw [z] at e;rw [aq nde,e] at nd;cases nd
 rw [wX n1,aq n2,aq n1,aq n1];exact e
structure FirstBad (m:Int) (rs:List Road) (xs:List Int) (ss:List Stp) (i:Nat):Prop where
 bef:∀ j s,j<i->ss[j]?=some s->cm m rs (jc rs xs ss j) s=true
 bad:∃ s,ss[i]?=some s/\cm m rs (jc rs xs ss i) s=false
end Pb
set_option Elab.async false
set_option linter.all false
set_option maxRecDepth 100000
namespace Pb
open L2 PySem
section
variable {m:Int} {rs:List Road}
end
section
variable {m:Int} {rs:List Road} {r:Int} {par:Int->Int} {dep:Int->Nat} {st:Int->Int} {xs ys:List Int}
end
end Pb
set_option Elab.async false
set_option linter.all false
set_option maxRecDepth 100000
namespace L2
open PySem PySem.Spec PyProof.Rows
section
variable {X:Cx}
def Ta (t:TE):TE:=fun σ H Q=>t σ H fun x H1=>∃ b,x=.bl b/\Q (.bl (b == true)) H1
end
end L2
namespace Pb
open L2 PySem
section
variable {m:Int} {rs:List Road} {r:Int} {par:Int->Int} {dep:Int->Nat} {P:Int->Int} {xs:List Int}
end
end Pb
set_option Elab.async false
set_option linter.all false
set_option maxRecDepth 100000
namespace Pb
open L2 PySem
end Pb
set_option Elab.async false
set_option linter.all false
set_option maxRecDepth 100000
namespace L2
open PySem PySem.Spec PyProof.Rows
section
variable {prog:Program} {w:World} {A:Around} {E:Value->Shared->Prop} {s:Shared}
end
section
variable {X:Cx} {tg:Expr} {Nc:List Str} {own:Nat} {js:List Nat} {scope:Scope} {cl:List (Str × Addr)}
end
section
variable {X:Cx} {x n:Str} {np pos:Pos} {i:Nat} {C':Addr} {b0:Stmt} {suite:List Stmt} {cL:List ExceptHandler} {ts:Addr->TS} {tr:TH}
end
end L2
namespace Pb
open L2 PySem
end Pb
set_option Elab.async false
set_option linter.all false
set_option maxRecDepth 100000
namespace Pb
open L2 PySem
end Pb
set_option Elab.async false
set_option linter.all false
set_option maxRecDepth 100000
namespace L2
open PySem
def Kpt (o:Addr) (H H':Hp):Prop:=∀ b x,H b=some x->b≠o->H' b=some x
theorem Kpt.refl {o:Addr} {H:Hp}:Kpt o H H:=fun _ _ h _=>h
theorem Kpt.then {o:Addr} {H H1 H2:Hp} (a:Kpt o H H1) (b:Same H1 H2):Kpt o H H2:=fun c x h n=>b c x (a c x h n)
theorem Kpt.put {o:Addr} {H H1:Hp} (a:Kpt o H H1) (x:HO):Kpt o H (upd H1 o x):=fun c y h n=>by rw [aq n];exact a c y h n
end L2
namespace Pb
open PySem L2
def xI (xs ys:List Int):List Int:=List.zipWith (·+·) xs ys
def zrs (m:Int):List Int:=List.replicate m.toNat 0
theorem Aw {α β:Type} {R:α->β->Prop} {a:α} {b:β} (e:R a b):∀ {l:List α} {l':List β},Paired R l l'->Paired R (l++[a]) (l'++[b])
 | _,_,.nil=>.cons e .nil
 | _,_,.cons x xs=>.cons x (Aw e xs)
theorem IY (m:Int):(zrs m).map V.int=List.replicate m.toNat (V.int 0):=by unfold zrs;rw [List.map_replicate]
section
variable {m:Int} {rs:List Road} {r:Int} {par:Int->Int} {dep:Int->Nat} {nd:Int->Int}
theorem Pn {xs ys:List Int} {n:Nat} (h1:xs.length=n) (h2:ys.length=n):(xI xs ys).length=n:=by unfold xI;rw [List.length_zipWith];omega
theorem Jh (m:Int):(zrs m).length=m.toNat:=List.length_replicate
end
end Pb
set_option Elab.async false
set_option linter.all false
set_option maxRecDepth 100000
namespace Pb
open PySem L2
section
variable {m:Int} {rs:List Road} {r:Int} {par:Int->Int} {dep:Int->Nat} {nd:Int->Int}
variable {w:Int->Int}
variable {x st bl:Int->Int}
theorem QM {xs:List Int} (x0:∀ x∈xs,0<=x) (i:Nat):0<=xs.getD i 0:=by
 rw [List.getD_eq_getElem?_getD];cases e:xs[i]? with
 | none=>exact Int.le_refl _
 | some y=>exact x0 y (List.mem_of_getElem? e)
end
end Pb
set_option Elab.async false
set_option linter.all false
set_option maxRecDepth 100000
namespace Pb
open PySem L2
theorem Dk:∀ {xs ys:List Int},xs.length=ys.length->∀ (i:Nat),(xI xs ys).getD i 0=xs.getD i 0+ys.getD i 0
 | [],[],_,i=>by simp [xI]
 | a::xs,b::ys,h,0=>by simp [xI]
 | a::xs,b::ys,h,i+1=>by
   have ih:=Dk (xs:=xs) (ys:=ys) (by simpa using h) i;unfold xI at ih ⊢;rw [List.zipWith_cons_cons,List.getD_cons_succ,List.getD_cons_succ,List.getD_cons_succ,ih]
theorem G0 (m:Int) (i:Nat):(zrs m).getD i 0=0:=by
 rw [List.getD_eq_getElem?_getD];cases e:(zrs m)[i]? with
 | none=>rfl
 | some y=>exact (List.mem_replicate.mp (List.mem_of_getElem? e)).2
section
variable {m:Int} {rs:List Road} {r:Int} {par:Int->Int} {dep:Int->Nat} {nd w:Int->Int}
theorem Ou {m v d:Int} (v0:0<=v) (v1:v<m):((zrs m).set v.toNat d).getD v.toNat 0=d/\∀ u,0<=u->u<m->u≠v->((zrs m).set v.toNat d).getD u.toNat 0=0:=by
 refine ⟨?_,fun u u0 u1 hu=>?_⟩
 . rw [List.getD_eq_getElem?_getD,List.getElem?_set_self (by rw [Jh];omega)];rfl
 . rw [List.getD_eq_getElem?_getD,List.getElem?_set_ne (by omega),<- List.getD_eq_getElem?_getD,G0]
end
end Pb
set_option Elab.async false
set_option linter.all false
set_option maxRecDepth 100000
namespace L2
open PySem PySem.Spec PyProof.Rows
section
variable {X:Cx}
def R4 (t:TE):TE:=fun σ H Q=>t σ H fun x H1=>∃ b,x=.bl b/\Q (.bl (b != false)) H1
end
end L2
namespace L2
open PySem Pb
end L2
set_option Elab.async false
set_option linter.all false
set_option maxRecDepth 100000
namespace Pb
open PySem L2
section
variable {m:Int} {rs:List Road} {r:Int} {par:Int->Int} {dep:Int->Nat} {nd w:Int->Int}
end
end Pb
set_option Elab.async false
set_option linter.all false
set_option maxRecDepth 100000
namespace Pb
open PySem L2
section
variable {m:Int} {rs:List Road} {r:Int} {par:Int->Int} {dep:Int->Nat} {near t u:Int}
end
end Pb
set_option Elab.async false
set_option linter.all false
set_option maxRecDepth 100000
namespace Pb
open PySem L2
section
variable {m:Int} {rs:List Road} {r:Int} {par:Int->Int} {dep:Int->Nat} {nd w:Int->Int}
end
end Pb
set_option Elab.async false
set_option linter.all false
set_option maxRecDepth 100000
namespace Pb
open PySem L2
section
variable {m:Int} {rs:List Road} {r:Int} {par:Int->Int} {dep:Int->Nat} {nd w:Int->Int}
end
end Pb
set_option Elab.async false
set_option linter.all false
set_option maxRecDepth 100000
namespace L2
open PySem PySem.Spec PyProof.Rows
def KC (i j:Nat) (ta:TA):TS:=fun D σ H=>ta σ H fun vs H1=>∃ v w,vs=[v,w]/\D.nx ((σ.set i (some v)).set j (some w)) H1
theorem SE {X:Cx} {pos:Pos} {i j:Nat} {x y:Str} {a b:Expr} {ta:TA} {px py pt:Pos} {kt k2 pt2} (hc:X.calm=true) (hN:X.N.Nodup) (hi:X.N[i]?=some x) (hj:X.N[j]?=some y) (hij:i≠j)
   (hx:X.env.scope.names.lookup x=some .local) (hy:X.env.scope.names.lookup y=some .local) (ha:PA X [a,b] ta)
   (hw:swappedStores [.Tuple [.Name x px,.Name y py] kt pt] (.Tuple [a,b] k2 pt2) X.env=pure (some [x,y]))
   (hs:swapsWithSole [.Tuple [.Name x px,.Name y py] kt pt] (.Tuple [a,b] k2 pt2) pos.line X.env=pure false:=by rfl) :
   PS X (.Assign [.Tuple [.Name x px,.Name y py] kt pt] (.Tuple [a,b] k2 pt2) pos) (KC i j ta):=by
 intro pins s σ H D I h;rw [exec_Assign_arm];refine wpAny_bind (wpAny_standAt ?_);rw [hs];refine wpAny_bind (wpAny_pure ?_);rw [if_neg (by decide)];refine wpAny_bind (Tuple_ (mS (ha _ pins s σ H _ I h) fun us s1 vs H1 I1 r1 q1=>?_));obtain ⟨v,w,e1,q1⟩:=q1;subst e1;obtain ⟨u1,u2,rfl,rv,rw'⟩:∃ u1 u2,us=[u1,u2]/\RelV v u1/\RelV w u2:=by
   cases r1 with
   | cons p q =>
     cases q with
     | cons p' q' =>
       cases q';exact ⟨_,_,rfl,p,p'⟩
 refine wpAny_newObj_type ?_ (by show 2<=sizeLine;decide);have I2:Inv X pins σ H1 { s1 with heap:=s1.heap.push { cls:=.type "tuple",data:=.seq [u1,u2].toArray } }:=I1.kept (t':=s1.toks) fun b o e=>Heap.get?_push_of_some _ e;rw [hw];refine wpAny_bind (wpAny_pure ?_);show wpAny (model X.prog X.w) X.A (do rule "assign.swapped-stores";let items <- unpackItems (.ref s1.heap.objs.size) 2 none;assignInOrder [fun v=>bindName X.env y v,fun v=>bindName X.env x v] items.reverse;pure Flow.next) _ _ _;refine wpAny_bind (wpAny_rule (wpAny_bind (unpackItems_tuple (items:=#[u1,u2]) (I.ok.hd hc) (IsTup.new s1.heap _) fun h' hx'=>?_)));have I3:=I2.kept (h':=h') (t':=s1.toks) fun b o e=>hx' b o (Nat.ne_of_lt (Heap.lt_size e)) e;show wpAny _ _ (assignInOrder [fun v=>bindName X.env y v,fun v=>bindName X.env x v] [u2,u1] >>= fun _=>pure Flow.next) _ _ _;refine wpAny_bind (assignInOrder_cons (wpAny_bindName (mz I3 hN hj (.inl hy) rw' (fun s3 I5=>?_) (.inr hy))));refine assignInOrder_cons (wpAny_bindName (mz I5 hN hi (.inl hx) rv (fun s4 I6=>assignInOrder_nil (wpAny_pure ?_)) (.inr hx)));have e:(σ.set j (some w)).set i (some v)=(σ.set i (some v)).set j (some w):=List.set_comm _ _ hij.symm;rw [e] at I6;exact ⟨_,H1,I6,q1⟩
end L2
namespace Pb
open PySem L2
theorem vD {α β:Type} {R:α->β->Prop}:∀ {l:List α} {l':List β} {b:β},Paired R l (l'++[b])->∃ l0 a,l=l0++[a]/\Paired R l0 l'/\R a b
 | _,[],b,.cons (a:=a) h .nil=>⟨[],a,rfl,.nil,h⟩
 | _,c::l',b,.cons (a:=a) h hs=>by
   obtain ⟨l0,x,rfl,h1,h2⟩:=vD hs;exact ⟨a::l0,x,rfl,.cons h h1,h2⟩
theorem IV {α:Type} (l:List α) (x:α):atI (l++[x]) (-1)=some x:=by
 unfold atI ixN;rw [if_neg (by decide),List.length_append,List.length_cons,List.length_nil,if_pos (by omega)];show (l++[x])[(-1+((l.length+(0+1):Nat):Int)).toNat]?=some x;rw [show (-1+((l.length+(0+1):Nat):Int)).toNat=l.length by omega,List.getElem?_append_right (Nat.le_refl _),Nat.sub_self]
 rfl
theorem Tq {xs ys:List Int} (l:xs.length=ys.length) (h:∀ i:Nat,xs.getD i 0=ys.getD i 0):xs=ys:=by
 refine List.ext_getElem l fun i h1 h2=>?_;have:=h i;rw [List.getD_eq_getElem?_getD,List.getD_eq_getElem?_getD,List.getElem?_eq_getElem h1,List.getElem?_eq_getElem h2] at this;exact this
theorem Qu {m v n:Int} {xs:List Int} (xl:(xs.length:Int)=m) (v0:0<=v) (v1:v<m):xI xs ((List.replicate m.toNat (0:Int)).set v.toNat n)=xs.set v.toNat (xs.getD v.toNat 0+n):=by
 have l1:xs.length=((List.replicate m.toNat (0:Int)).set v.toNat n).length:=by rw [List.length_set,List.length_replicate];omega
 refine Tq (by rw [Pn rfl l1.symm,List.length_set]) fun i=>?_;rw [Dk l1];have hz:=Ou (m:=m) (d:=n) v0 v1;by_cases e:i=v.toNat
 . subst e;have h1:((List.replicate m.toNat (0:Int)).set v.toNat n).getD v.toNat 0=n:=hz.1;rw [h1,List.getD_eq_getElem?_getD (l:=xs.set v.toNat (xs.getD v.toNat 0+n)),List.getElem?_set_self (by omega)]
   rfl
 . have h1:((List.replicate m.toNat (0:Int)).set v.toNat n).getD i 0=0:=by
     rw [List.getD_eq_getElem?_getD,List.getElem?_set_ne (Ne.symm e),<- List.getD_eq_getElem?_getD];exact G0 m i
   rw [h1,List.getD_eq_getElem?_getD (l:=xs.set v.toNat (xs.getD v.toNat 0+n)),List.getElem?_set_ne (Ne.symm e),<- List.getD_eq_getElem?_getD];omega
theorem sne {a b:Str} (h:¬ a=b):¬ V.str a=V.str b:=fun z=>h (by injection z)
inductive Dd where
 | put (v n:Int)|want (v n:Int)|back (v n:Int)|step (a b n:Int)
def Dd.wd:Dd->Str
 | .put _ _=>"put" | .want _ _=>"want" | .back _ _=>"back" | .step _ _ _=>"step"
def Dd.ns:Dd->List Int
 | .put v n=>[v,n]|.want v n=>[v,n]|.back v n=>[v,n]|.step a b n=>[a,b,n]
def Dd.Ok (m:Int) (rs:List Road):Dd->Prop
 | .put v n=>(0<=v/\v<m)/\0<=n|.want v n=>(0<=v/\v<m)/\0<=n|.back _ _=>True|.step a b n=>Adj rs a b/\1<=n/\n<=3
def StL (H:Hp) (q:Addr) (s:List Int × List Int):Prop:=∃ a b,H q=some (.tup [.ref a,.ref b])/\H a=some (.lst (s.1.map V.int))/\H b=some (.lst (s.2.map V.int))
end Pb
set_option Elab.async false
set_option linter.all false
set_option maxRecDepth 100000
namespace Pb
open PySem L2
inductive De where
 | put (v n:Int)|want (v n:Int)|step (a b n:Int)|back (ns:List Int)
def De.wd:De->Str
 | .put _ _=>"put" | .want _ _=>"want" | .step _ _ _=>"step" | .back _=>"back"
def De.ns:De->List Int
 | .put v n=>[v,n]|.want v n=>[v,n]|.step a b n=>[a,b,n]|.back ns=>ns
def bhe (m:Int) (rs:List Road) (s:List Int × List Int):De->Option (List Int × List Int)
 | .put v n=>if (0<=v/\v<m)/\0<=n then some (s.1.set v.toNat (s.1.getD v.toNat 0+n),s.2) else none
 | .want v n=>if (0<=v/\v<m)/\0<=n then some (s.1,s.2.set v.toNat n) else none
 | .step a b n=>if cm m rs s.1 (a,b,n)=true then some (gH rs s.1 (a,b,n),s.2) else none
 | .back _=>none
def d3 (m:Int) (rs:List Road) (s:List Int × List Int) (past:Int):De->Str
 | .put v n=>if ¬ (0<=v/\v<m) then "place" else if n<0 then "laying" else "fine"
 | .want v n=>if ¬ (0<=v/\v<m) then "place" else if n<0 then "wish" else "fine"
 | .step a b n=>if cm m rs s.1 (a,b,n)=true then "fine" else "step"
 | .back _=>if 0<past then "fine" else "deed"
theorem SB {m:Int} {rs:List Road} {xs:List Int} {s:Stp} {i:Nat} (h:FirstBad m rs xs [s] i):i=0/\cm m rs xs s=false:=by
 obtain ⟨st,hs,cb⟩:=h.bad
 match i,hs with
 | 0,hs=>cases hs;exact ⟨rfl,cb⟩
 | i+1,hs=>cases hs
theorem S5 {m:Int} {rs:List Road} (g:Good m rs) {xs:List Int} {a b n k:Int} (e:bF rs a b=some k):cm m rs xs (a,b,n)=decide (1<=n/\n*k<=xs.getD a.toNat 0):=by
 have ad:Adj rs a b:=AK.mp (by rw [e];rfl);obtain ⟨ar,br,_⟩:=g.adj ad;have td:eW rs a b=k:=by unfold eW;rw [e];rfl
 unfold cm jA;show (decide (0<=a) && decide (a<m) && decide (b∈mH m rs a) && decide (1<=n) && decide (n*eW rs a b<=xs.getD a.toNat 0))=_;rw [decide_eq_true ar.1,decide_eq_true ar.2,decide_eq_true ((u9 g).mpr ad),td];by_cases h1:1<=n <;> by_cases h2:n*k<=xs.getD a.toNat 0 <;> simp [h1,h2]
theorem Tp {m:Int} {rs:List Road} (g:Good m rs) {xs:List Int} {a b n:Int} (e:bF rs a b=none):cm m rs xs (a,b,n)=false:=by
 have nb:b ∉ mH m rs a:=fun h=>by
   have:=AK.mpr ((u9 g).mp h);rw [e] at this;cases this
 unfold cm jA;show (decide (0<=a) && decide (a<m) && decide (b∈mH m rs a) && decide (1<=n) && decide (n*eW rs a b<=xs.getD a.toNat 0))=false;rw [decide_eq_false nb];simp
def De.Ok (m:Int):De->Prop
 | .put v n=>(0<=v/\v<m)/\0<=n|.want v n=>(0<=v/\v<m)/\0<=n|.step _ _ _=>True|.back _=>False
end Pb
set_option Elab.async false
set_option linter.all false
set_option maxRecDepth 100000
set_option maxHeartbeats 4000000
namespace Pk
open PySem L2 Pb
seal L2.PSs L2.PS L2.PE L2.PT L2.PW L2.PA L2.PG L2.PGs L2.PI L2.PTs L2.PC L2.PPs L2.PO
abbrev top (i:Nat):Stmt:=Hd.top i
local macro_rules|`(tactic| walk_at "rd") => `(tactic| ((try dsimp only [tYes, Qs, RP, R4, Ends.less, DJ, Jk, GF, NL, IR, RL, S8, NP, DF, Pu, JW, P3, Ke, Ki, RX, LF, Tf, Rp, NV, DN, Op, P1, RR, MP, tNext, Lp, EF, J5, K1, gNil, Qa, RS, KC, LY, T4, RN, R3, Ta, ipI, Q4, Me, ED, tB, Bm, tC, G2, tOp, tUn, rI0, rI, rU, rEq, rNe, BI, EE, MM, Mz, tNil, Qn, Pq, tCB, tBM, Q0, QY, QN, T7, RY, Cu, Km, LA, Kf, NA, tS, Ni, OV, Qy, tOr, Qq, Kg, TU, Ln, tIf, List.nil_append, List.append_nil, List.set_cons_zero, List.set_cons_succ, List.getElem?_cons_zero, List.getElem?_cons_succ]);(try simp only [tYes, Qs, RP, R4, Ends.less, DJ, Jk, GF, NL, IR, RL, S8, NP, DF, Pu, JW, P3, Ke, Ki, RX, LF, Tf, Rp, NV, DN, Op, P1, RR, MP, tNext, Lp, EF, J5, K1, gNil, Qa, RS, KC, LY, T4, RN, R3, Ta, ipI, Q4, Me, ED, tB, Bm, tC, G2, tOp, tUn, rI0, rI, rU, rEq, rNe, R7, Sl, Sd, R5, SC, Sw, BI, EE, MM, Mz, tNil, Qn, Pq, tCB, tBM, Q0, QY, QN, T7, RY, Cu, Km, LA, Kf, NA, tS, Ni, OV, Qy, tOr, Qq, Kg, TU, Ln, tIf, List.nil_append, List.append_nil, List.set_cons_zero, List.set_cons_succ, List.getElem?_cons_zero, List.getElem?_cons_succ, Option.some.injEq, V.int.injEq, V.bl.injEq, V.ref.injEq, List.cons.injEq, exists_eq_left, exists_eq_left', exists_and_left, exists_const, and_true, true_and, decide_eq_true_eq, Bool.not_eq_true', decide_eq_false_iff_not, Bool.true_eq_false, Bool.false_eq_true, if_true, if_false])))
set_option genSizeOf false in
set_option genInjectivity false in
structure Txt (K:PySem.W.Frag) (mg:Str->Option Value) where
 TollError:Addr
 zo:mg "TollError"=some (.ref TollError)
 BadWeb:Addr
 Rs:mg "BadWeb"=some (.ref BadWeb)
 NoPlace:Addr
 DH:mg "NoPlace"=some (.ref NoPlace)
 NoRoad:Addr
 FQ:mg "NoRoad"=some (.ref NoRoad)
 BadLaying:Addr
 zv:mg "BadLaying"=some (.ref BadLaying)
 BadWish:Addr
 Dg:mg "BadWish"=some (.ref BadWish)
 TooMany:Addr
 Nj:mg "TooMany"=some (.ref TooMany)
 NoNumber:Addr
 Mo:mg "NoNumber"=some (.ref NoNumber)
 NoWorst:Addr
 N9:mg "NoWorst"=some (.ref NoWorst)
 NoDeed:Addr
 GX:mg "NoDeed"=some (.ref NoDeed)
 BadStep:Addr
 yk:mg "BadStep"=some (.ref BadStep)
 Web:Addr
 RU:mg "Web"=some (.ref Web)
 Desk:Addr
 T8:mg "Desk"=some (.ref Desk)
 Iw:XTop K TollError
 pC:XErr K TollError BadWeb
 kR:XErr K TollError NoPlace
 NQ:An K NoPlace
 qa:XErr K TollError NoRoad
 QB:An K NoRoad
 hV:XErr K TollError BadLaying
 Hw:An K BadLaying
 kO:XErr K TollError BadWish
 OS:An K BadWish
 nk:XErr K TollError TooMany
 lP:XErr K TollError NoNumber
 ny:XErr K TollError NoWorst
 mT:XErr K TollError NoDeed
 QS:An K NoDeed
 dS:XErr K TollError BadStep
 HW:BaseIn K TollError
 Ol:XSet K BadStep TollError "at"
 NC:PySem.W.findIn K (.ref BadStep) "at"=some none
 ndx:[TollError,BadWeb,NoPlace,NoRoad,BadLaying,BadWish,TooMany,NoNumber,NoWorst,NoDeed,BadStep].Nodup
 range:mg "range"=none
 zip:mg "zip"=none
 len:mg "len"=none
 isinstance:mg "isinstance"=none
 all:mg "all"=none
 int:mg "int"=none
 bool:mg "bool"=none
 tuple:mg "tuple"=none
 list:mg "list"=none
 sorted:mg "sorted"=none
 min:mg "min"=none
 enumerate:mg "enumerate"=none
 str:mg "str"=none
 ValueError:mg "ValueError"=none
 c_MOST_PLACES:∃ t,mg "MOST_PLACES"=some (.int 24 t)
 c_LEAST_TOLL:∃ t,mg "LEAST_TOLL"=some (.int 2 t)
 c_MOST_TOLL:∃ t,mg "MOST_TOLL"=some (.int 1000000 t)
 iQ:Cls K Web
 n_many:NoAttr K Web "many"
 n_roads:NoAttr K Web "roads"
 bp:Cls K Desk
 n_web:NoAttr K Desk "web"
 n_past:NoAttr K Desk "past"
section
variable {P:Program} {w:World} {K:PySem.W.Frag} {mg:Str->Option Value} {base:Heap} {CX:CXT}
def qK (T:Txt K mg):Sp:=fun vs H Q _=>∃ (m:Int) (t:Addr) (xs:List V),vs=[.int m,.ref t]/\SqT K H t xs/\1<=m/\m<=24/\(xs.length:Int)=m - 1/\Q .non H
abbrev bw:Stmt:=top 22
theorem Bb:FnScope ["many","roads"] ["many","roads"] (aa bw):=FnScope.of (by kernel_rfl)
theorem lO:NmL (aa bw) "many":=.of (by kernel_rfl)
theorem tH:NmL (aa bw) "roads":=.of (by kernel_rfl)
theorem gq:NmG (aa bw) "MOST_PLACES":=.of (by kernel_rfl)
theorem Hf:NmG (aa bw) "BadWeb":=.of (by kernel_rfl)
theorem ig:NmG (aa bw) "len":=.of (by kernel_rfl)
theorem B8 (T:Txt K mg) (hq:aV (CXe P w)) {f:Addr} {fd:FuncData} (D:Df K mg "check_counts" bw ["many","roads"] f fd):FnOk P w K mg base (CXe P w) 1 f fd ["many","roads"] (qK T):=by
 refine D.F.okC Bb (fun vs H Q E h=>?_) (fun cdv A outer s H vs Q E hr h=>?_)
 . obtain ⟨m,t,xs,rfl,_⟩:=h
   rfl
 . obtain ⟨m,t,xs,rfl,ht,h1,h2,hl,k⟩:=h;refine ⟨_,(ak (aR (gn (G3 BS BS ag (pvl 0 lO) (Ab gq.g T.c_MOST_PLACES (hd:=gq.d)))) (al mw) aB) (al (aR (ay re (ba bL ig.g T.len eN (af (pvl 1 tH) aj) (hn:=ig.n) (hdb:=ig.d)) (ao gS (pvl 0 lO) ag) (aD _)) (al mw) aB))),?_⟩;rw [show L2.start ["many","roads"] [V.int m,V.ref t]=[some (V.int m),some (V.ref t)] from rfl];walk_at "rd";rw [if_pos h1,if_neg (by omega)];exact ⟨xs,.inr ht,by rw [if_neg (by omega)];exact k⟩
def m3 (T:Txt K mg):Sp:=fun vs H Q _=>∃ m n:Int,vs=[.int m,.int n]/\Q (.bl (decide (0<=n) && decide (n<m))) H
abbrev c6:Stmt:=top 21
theorem HY:FnScope ["many","number"] ["many","number"] (aa c6):=FnScope.of (by kernel_rfl)
theorem Ap:NmL (aa c6) "many":=.of (by kernel_rfl)
theorem xK:NmL (aa c6) "number":=.of (by kernel_rfl)
theorem Hq (T:Txt K mg) (hq:aV (CXe P w)) {f:Addr} {fd:FuncData} (D:Df K mg "is_place" c6 ["many","number"] f fd):FnOk P w K mg base (CXe P w) 1 f fd ["many","number"] (m3 T):=by
 refine D.F.okC HY (fun vs H Q E h=>?_) (fun cdv A outer s H vs Q E hr h=>?_)
 . obtain ⟨m,n,rfl,_⟩:=h
   rfl
 . obtain ⟨m,n,rfl,k⟩:=h;refine ⟨_,(al (aF (Rb BS oW ag (pvl 1 xK) (pvl 0 Ap)))),?_⟩;rw [show L2.start ["many","number"] [V.int m,V.int n]=[some (V.int m),some (V.int n)] from rfl];walk_at "rd";by_cases c:0<=n
   . simpa [c] using k
   . simpa [c] using k
def wc (T:Txt K mg):Sp:=fun vs H Q _=>∃ (m:Int) (p:Addr) (r:Road),vs=[.int m,.ref p]/\H p=some (.tup (oO r))/\0<=r.a/\r.a<m/\0<=r.b/\r.b<m/\r.a≠r.b/\Q .non H
abbrev cc:Stmt:=top 23
theorem Ea:FnScope ["many","road"] ["many","road"] (aa cc):=FnScope.of (by kernel_rfl)
theorem ng:NmL (aa cc) "many":=.of (by kernel_rfl)
theorem fD:NmL (aa cc) "road":=.of (by kernel_rfl)
theorem dF:NmG (aa cc) "is_place":=.of (by kernel_rfl)
theorem MH:NmG (aa cc) "BadWeb":=.of (by kernel_rfl)
theorem D9 (T:Txt K mg) (hq:aV (CXe P w)) {f:Addr} {fd:FuncData} (D:Df K mg "check_ends" cc ["many","road"] f fd) {cK:Addr} {eC:FuncData} (bq:Df K mg "is_place" c6 ["many","number"] cK eC) (G_is_place:FnOk P w K mg base (CXe P w) 1 cK eC ["many","number"] (m3 T)):FnOk P w K mg base (CXe P w) 2 f fd ["many","road"] (wc T):=by
 refine D.F.okC Ea (fun vs H Q E h=>?_) (fun cdv A outer s H vs Q E hr h=>?_)
 . obtain ⟨m,p,r,rfl,_⟩:=h
   rfl
 . obtain ⟨m,p,r,rfl,hp,a0,a1,b0,b1,ne,k⟩:=h;refine ⟨_,(ak (aR (PW.pt (oX (gn (gh (aE G_is_place (hr.mono (by decide)) dF.g bq.m bq.F.kp bq.b .nil (bH hq) (af (pvl 0 ng) (af (au bo (pvl 1 fD) ag (fun _ _=>rfl)) aj)) (hdb:=dF.d)))) (ni (gn (gh (aE G_is_place (hr.mono (by decide)) dF.g bq.m bq.F.kp bq.b .nil (bH hq) (af (pvl 0 ng) (af (au bo (pvl 1 fD) ag (fun _ _=>rfl)) aj)) (hdb:=dF.d))))))) (al mw) aB) (al (aR (ay bM (au bo (pvl 1 fD) ag (fun _ _=>rfl)) (au bo (pvl 1 fD) ag (fun _ _=>rfl)) (aD _)) (al mw) aB))),?_⟩;rw [show L2.start ["many","road"] [V.int m,V.ref p]=[some (V.int m),some (V.ref p)] from rfl];walk_at "rd";refine ixT hp rfl ⟨m,r.a,rfl,_,rfl,?_⟩;rw [if_neg (by simp [a0,a1])];refine ixT hp rfl ⟨m,r.b,rfl,_,rfl,?_⟩;rw [if_neg (by simp [b0,b1])];refine ixT hp rfl (ixT hp rfl ⟨rfl,?_⟩);rw [if_neg (by simpa using ne)];exact k
def oq (T:Txt K mg):Sp:=fun vs H Q _=>∃ (t:Addr) (ps:List Addr) (rs:List Road) (n:Int),vs=[.ref t,.int n]/\SqT K H t (ps.map V.ref)/\RoadsAt H ps rs/\rs.length<=1000 /\
 ∀ l H',H l=none->Same H H'->H' l=some (.lst ((cy rs n).map V.int))->Q (.ref l) H'
abbrev bX:Stmt:=top 26
theorem nU:FnScope ["roads","place","ends","road"] ["roads","place"] (aa bX):=FnScope.of (by kernel_rfl)
theorem wo:NmL (aa bX) "roads":=.of (by kernel_rfl)
theorem l7:NmL (aa bX) "place":=.of (by kernel_rfl)
theorem fm:NmL (aa bX) "ends":=.of (by kernel_rfl)
theorem dN:NmL (aa bX) "road":=.of (by kernel_rfl)
theorem EA (T:Txt K mg) (hq:aV (CXe P w)) {f:Addr} {fd:FuncData} (D:Df K mg "other_ends" bX ["roads","place"] f fd):FnOk P w K mg base (CXe P w) 1 f fd ["roads","place"] (oq T):=by
 refine D.F.okC nU (fun vs H Q E h=>?_) (fun cdv A outer s H vs Q E hr h=>?_)
 . obtain ⟨t,ps,rs,n,rfl,_⟩:=h
   rfl
 . obtain ⟨t,ps,rs,n,rfl,ht,hp,hl,k⟩:=h;refine ⟨_,(ak (aJ (i:=2) nU.nd rfl (Or.inl fm.l) (bE aj)) (ak (je PassesOwn.never rfl (wI (pvl 0 wo)) (aP (i:=3) nU.nd rfl (Or.inl dN.l)) (ak (aR (ay bM (au bo (pvl 3 dN) ag (fun _ _=>rfl)) (pvl 1 l7) (aD _)) (al (bP (lN PySem.F.plainAttrs_list PySem.F.slot_list_append PySem.F.type_list_append ft (pvl 2 fm) (af (au bo (pvl 3 dN) ag (fun _ _=>rfl)) aj)))) aB) (al (aR (ay bM (au bo (pvl 3 dN) ag (fun _ _=>rfl)) (pvl 1 l7) (aD _)) (al (bP (lN PySem.F.plainAttrs_list PySem.F.slot_list_append PySem.F.type_list_append ft (pvl 2 fm) (af (au bo (pvl 3 dN) ag (fun _ _=>rfl)) aj)))) aB)))) (al (aF (pvl 2 fm))))),?_⟩;rw [show L2.start ["roads","place","ends","road"] [V.ref t,V.int n]=[some (V.ref t),some (V.int n),none,none] from rfl];walk_at "rd";refine ⟨by decide,fun l hn=>?_⟩;have hlen:ps.length=rs.length:=Paired.length hp;refine ⟨⟨_,Same.tup (Same.new _ hn) ht⟩,C2 (xs:=ps.map V.ref) (fun i σ H2=>H2=upd H l (.lst ((cy (rs.take i) n).map V.int))/\∃ v,σ=[some (.ref t),some (.int n),some (.ref l),v]) ⟨rfl,_,rfl⟩ (fun i σ H2 _ z=>by rw [z.1];exact Same.tup (Same.new _ hn) ht) ?_ ?_⟩
   . rintro i x σ H2 hi ⟨rfl,v,rfl⟩;obtain ⟨p,r,rfl,h1,h2,h3⟩:=hp.get hi;have np:p≠l:=bi h3 hn;have hil:i<rs.length:=(List.getElem?_eq_some_iff.mp h2).1;have et:rs.take (i+1)=rs.take i++[r]:=(by rw [List.take_succ,h2];rfl);have hb:(cy (rs.take i) n).length<=2000:=Nat.le_trans (Gw _ _) (by rw [List.length_take];omega);have hx:∀ o,upd H l o p=some (.tup (oO r)):=fun o=>by rw [aq np];exact h3
     walk_at "rd";refine ixT (hx _) rfl ?_;walk_at "rd";have fin:∀ (ys:List Int),(cy (rs.take i) n++ys)=cy (rs.take (i+1)) n->upd H l (.lst ((cy (rs.take i) n).map V.int++ys.map V.int))=upd H l (.lst ((cy (rs.take (i+1)) n).map V.int)):=fun ys e=>by
       rw [<- List.map_append,e]
     have e1:qT n r=(if r.a=n then [r.b] else [])++(if r.b=n then [r.a] else []):=rfl;by_cases ca:r.a=n
     . rw [if_pos ca];refine ⟨tyL ah,ixT (hx _) rfl (AG ah (ir (by rw [List.length_map];omega)) ?_)⟩;rw [hJ];refine ixT (hx _) rfl ?_;walk_at "rd";by_cases cb:r.b=n
       . rw [if_pos cb];refine ⟨tyL ah,ixT (hx _) rfl (AG ah (ir (by rw [List.length_append,List.length_map];simp;omega)) ?_)⟩;rw [hJ,List.append_assoc];exact ⟨fin [r.b,r.a] (by rw [et,qN,e1,if_pos ca,if_pos cb];rfl),_,rfl⟩
       . rw [if_neg cb];exact ⟨fin [r.b] (by rw [et,qN,e1,if_pos ca,if_neg cb];rfl),_,rfl⟩
     . rw [if_neg ca];refine ixT (hx _) rfl ?_;walk_at "rd";by_cases cb:r.b=n
       . rw [if_pos cb];refine ⟨tyL ah,ixT (hx _) rfl (AG ah (ir (by rw [List.length_map];omega)) ?_)⟩;rw [hJ];exact ⟨fin [r.a] (by rw [et,qN,e1,if_neg ca,if_pos cb];rfl),_,rfl⟩
       . rw [if_neg cb];have:=fin [] (by rw [et,qN,e1,if_neg ca,if_neg cb];rfl);rw [List.map_nil,List.append_nil] at this;exact ⟨this,_,rfl⟩
   . rintro σ H2 ⟨rfl,v,rfl⟩;rw [List.length_map,hlen,List.take_length];exact ⟨_,rfl,k l _ hn (Same.new _ hn) ah⟩
def jD (ks:List Int):List (Key × V):=ks.map fun k=>((Sum.inl k:Key),V.bl true)
theorem Dz (ks:List Int):(jD ks).length=ks.length:=by unfold jD;rw [List.length_map]
theorem Gv (ks:List Int) (e:Int):mJ (jD ks) (Sum.inl e:Key)=if e∈ks then some (V.bl true) else none:=by
 unfold jD
 induction ks with
 | nil=>rfl
 | cons k ks ih =>
   rw [List.map_cons];by_cases c:k=e
   . rw [um (by rw [c]),if_pos (by rw [c];exact List.mem_cons_self)]
   . rw [vz (fun z=>c (Sum.inl.inj z)),ih];by_cases d:e∈ks
     . rw [if_pos d,if_pos (List.mem_cons_of_mem _ d)]
     . rw [if_neg d,if_neg (fun z=>by rcases List.mem_cons.mp z with z|z;exact c z.symm;exact d z)]
theorem QC {ks:List Int} {e:Int} (h:e ∉ ks):ik (jD ks) (Sum.inl e:Key) (V.bl true)=jD (ks++[e]):=by
 rw [Qp _ (by rw [Gv,if_neg h])];unfold jD;rw [List.map_append]
 rfl
def rf (T:Txt K mg):Sp:=fun vs H Q _=>∃ (m:Int) (t:Addr) (ps:List Addr) (rs:List Road),vs=[.int m,.ref t]/\SqT K H t (ps.map V.ref)/\RoadsAt H ps rs/\Good m rs/\∀ H',Same H H'->Q .non H'
abbrev aW:Stmt:=top 25
theorem fu:FnScope ["many","roads","reached","waiting","place","end"] ["many","roads"] (aa aW):=FnScope.of (by kernel_rfl)
theorem u8:NmL (aa aW) "many":=.of (by kernel_rfl)
theorem tT:NmL (aa aW) "roads":=.of (by kernel_rfl)
theorem dz:NmL (aa aW) "reached":=.of (by kernel_rfl)
theorem dy:NmL (aa aW) "waiting":=.of (by kernel_rfl)
theorem kL:NmL (aa aW) "place":=.of (by kernel_rfl)
theorem eY:NmL (aa aW) "end":=.of (by kernel_rfl)
theorem gU:NmG (aa aW) "other_ends":=.of (by kernel_rfl)
theorem ic:NmG (aa aW) "len":=.of (by kernel_rfl)
theorem HQ:NmG (aa aW) "BadWeb":=.of (by kernel_rfl)
theorem Bg (T:Txt K mg) (hq:aV (CXe P w)) {f:Addr} {fd:FuncData} (D:Df K mg "check_joined" aW ["many","roads"] f fd) {cR:Addr} {gR:FuncData} (cz:Df K mg "other_ends" bX ["roads","place"] cR gR) (G_other_ends:FnOk P w K mg base (CXe P w) 1 cR gR ["roads","place"] (oq T)):FnOk P w K mg base (CXe P w) 2 f fd ["many","roads"] (rf T):=by
 refine D.F.okC fu (fun vs H Q E h=>?_) (fun cdv A outer s H vs Q E hr h=>?_)
 . obtain ⟨m,t,ps,rs,rfl,_⟩:=h
   rfl
 . obtain ⟨m,t,ps,rs,rfl,ht,hp,g,k⟩:=h;have hu:=RV hr;refine ⟨_,(ak (aJ (i:=2) fu.nd rfl (Or.inl dz.l) (Jc (zZ ag lM IZ) rfl rfl (List.cons_ne_nil _ _) (by decide))) (ak (aJ (i:=3) fu.nd rfl (Or.inl dy.l) (bE (af ag aj))) (ak (O0 PassesOwn.never (Ri (pvl 3 dy) (fun _=>rfl)) (ak (aJ (i:=4) fu.nd rfl (Or.inl kL.l) (FZ PySem.F.plainAttrs_list PySem.F.slot_list_pop PySem.F.type_list_pop Fa (pvl 3 dy))) (al (je PassesOwn.never rfl (y4 (aE G_other_ends (hr.mono (by decide)) gU.g cz.m cz.F.kp cz.b .nil (bH hq) (af (pvl 1 tT) (af (pvl 4 kL) aj)) (hdb:=gU.d))) (aP (i:=5) fu.nd rfl (Or.inl eY.l)) (al (aR (OU (NB hu (pvl 5 eY) (pvl 2 dz))) (ak (S3 hu (pvl 2 dz) (pvl 5 eY) lM rfl) (al (bP (lN PySem.F.plainAttrs_list PySem.F.slot_list_append PySem.F.type_list_append ft (pvl 3 dy) (af (pvl 5 eY) aj))))) aB)))))) (al (aR (ay re (ba N8 ic.g T.len eN (af (pvl 2 dz) aj) (hn:=ic.n) (hdb:=ic.d)) (pvl 0 u8) (aD _)) (al mw) aB))))),?_⟩;rw [show L2.start ["many","roads","reached","waiting","place","end"] [V.int m,V.ref t]=[some (V.int m),some (V.ref t),none,none,none,none] from rfl];have m1:=g.m1;have m24:=g.m24;have glen:=g.len;walk_at "rd";intro d hd;refine ⟨ah,[(Sum.inl 0,.bl true)],rfl,by decide,?_⟩;rw [hJ];refine ⟨by decide,fun w0 hw=>?_⟩;have ed:nG [] [((Sum.inl 0:Key),V.bl true)]=jD [0]:=rfl;rw [ed];have ndw:w0≠d:=fun z=>by rw [z,ah] at hw;cases hw
   have hw0:H w0=none:=by rw [aq ndw] at hw;exact hw
   refine SV (fun n σ H2=>∃ (ks ws:List Int) (v4 v5:Option V),n=2*(m.toNat - ks.length)+ws.length/\σ=[some (.int m),some (.ref t),some (.ref d),some (.ref w0),v4,v5]/\Same H H2/\H2 d=some (.dK (jD ks))/\H2 w0=some (.lst (ws.map V.int))/\JInv m rs ks ws) _ ⟨[0],[0],none,none,rfl,rfl,?_,?_,ah,JInv.start m1⟩ ?_
   . exact Same.trans (Same.new _ hd) (Same.new _ hw)
   . rw [aq ndw.symm,ah]
   rintro n σ H2 NW hN hN2 ⟨ks,ws,v4,v5,rfl,rfl,sm,h1,h2,J⟩;have kl:=qW (by omega) J.nd J.rng;refine ⟨_,rfl,!(ws.map V.int).isEmpty,.inl ⟨_,SqL.of h2,rfl⟩,?_⟩;rcases List.eq_nil_or_concat ws with rfl|⟨ws',p,rfl⟩
   . -- nothing waits: all places have been reached
     have full:=J.all m1 g.jn;refine UQ ?_;walk_at "rd";refine ⟨jD ks,h1,?_⟩;rw [Dz,if_neg (by omega)];exact k _ sm
   . rw [List.concat_eq_append] at J h2 hN hN2 ⊢;have e1:(!(List.map V.int (ws'++[p])).isEmpty)=true:=(by simp);rw [e1];refine UG ⟨NW,hN2,?_⟩;walk_at "rd";rw [List.map_append,List.map_cons,List.map_nil] at h2;refine ⟨tyL h2,UJ h2 ?_⟩;have ndw':d≠w0:=ndw.symm;have sm2:Same H (upd H2 w0 (.lst (ws'.map V.int))):=fun b o e=>by rw [aq (bi e hw0)];exact sm b o e
     refine ⟨t,ps,rs,p,rfl,Same.tup sm2 ht,RoadsAt.same sm2 hp,by omega,fun l H3 hn s3 hl=>?_⟩;have nlw:w0≠l:=bi (o:=.lst (ws'.map V.int)) ah hn;have nld:d≠l:=bi (o:=.dK (jD ks)) (by rw [aq ndw'];exact h1) hn;have hl0:H l=none:=sm2.free hn;refine ⟨l,rfl,⟨_,SqL.of hl⟩,yz (K:=K) (xs:=(cy rs p).map V.int) (fun i σ H4=>∃ (v5:Option V),σ=[some (.int m),some (.ref t),some (.ref d),some (.ref w0),some (.int p),v5]/\Same H H4/\H4 l=some (.lst ((cy rs p).map V.int)) /\
       ∃ ks4 ws4:List Int,H4 d=some (.dK (jD ks4))/\H4 w0=some (.lst (ws4.map V.int))/\JMid m rs p ((cy rs p).take i) ks4 ws4 ks ws'.length) ?_ (fun i σ H4 _ z=>by obtain ⟨_,_,_,z,_⟩:=z;exact SqL.of z) ?_ ?_⟩
     . refine ⟨_,rfl,sm2.trans s3,hl,ks,ws',?_,?_,?_⟩
       . exact s3 _ _ (by rw [aq ndw'];exact h1)
       . exact s3 _ _ ah
       . rw [List.take_zero];exact JMid.start J
     . rintro i x σ H4 NI hI hi ⟨v5,rfl,s4,hl4,ks4,ws4,hd4,hw4,M⟩;rw [List.getElem?_map] at hi;obtain ⟨e,he,rfl⟩:∃ e,(cy rs p)[i]?=some e/\V.int e=x:=by
         cases q:(cy rs p)[i]? with
         | none=>rw [q] at hi;cases hi
         | some e=>rw [q] at hi;exact ⟨e,rfl,Option.some.inj hi⟩
       have er:=Qc g.ok (List.mem_of_getElem? he);have et:(cy rs p).take (i+1)=(cy rs p).take i++[e]:=(by rw [List.take_succ,he];rfl);have st:=M.step er.1 er.2;have k4:=qW (by omega) M.nd M.rng;have mu4:=M.mu;walk_at "rd";refine ⟨_,DGet.k (k:=Sum.inl e) hd4,?_⟩;rw [Gv];by_cases c:e∈ks4
       . rw [if_pos c];rw [if_neg (by simp)];refine hI _ _ ⟨_,rfl,s4,hl4,ks4,ws4,hd4,hw4,?_⟩;rw [et];unfold A3 at st;rw [if_pos c] at st;exact st
       . rw [if_neg c];rw [if_pos (by simp)];refine ⟨_,DPut.k (k:=Sum.inl e) hd4 (ir (by rw [Dz];omega)),?_⟩;rw [QC c];have hw5:upd H4 d (.dK (jD (ks4++[e]))) w0=some (.lst (ws4.map V.int)):=(by rw [aq ndw];exact hw4);refine ⟨tyL hw5,AG hw5 (ir (by rw [List.length_map];have:=M.wl;omega)) ?_⟩;have hmid:=M.mu;refine hI _ _ ⟨_,rfl,fun b o z=>?_,?_,ks4++[e],ws4++[e],?_,?_,?_⟩
         . rw [aq (bi z hw0),aq (bi z hd)];exact s4 b o z
         . rw [aq nlw.symm,aq nld.symm];exact hl4
         . rw [aq ndw',ah]
         . rw [ah,List.map_append];rfl
         . rw [et];unfold A3 at st;rw [if_neg c] at st;exact st
     . rintro σ H4 ⟨v5,rfl,s4,hl4,ks4,ws4,hd4,hw4,M⟩;rw [List.length_map,List.take_length] at M;have k4:=qW (by omega) M.nd M.rng;have mu4:=M.mu;have up4:=M.up;refine hN _ _ _ ?_ ⟨ks4,ws4,some (.int p),v5,rfl,rfl,s4,hd4,hw4,M.done⟩;rw [List.length_append];simp only [List.length_cons,List.length_nil];omega
def tN (T:Txt K mg):Sp:=fun vs H Q _=>∃ (p:Addr) (r:Road),vs=[.ref p]/\H p=some (.tup (oO r))/\2<=r.t/\r.t<=1000000/\2<=r.u/\r.u<=1000000/\∀ H',Same H H'->Q .non H'
abbrev bJ:Stmt:=top 24
theorem tD:FnScope ["road","number"] ["road"] (aa bJ):=FnScope.of (by kernel_rfl)
theorem mf:NmL (aa bJ) "road":=.of (by kernel_rfl)
theorem k8:NmL (aa bJ) "number":=.of (by kernel_rfl)
theorem iz:NmG (aa bJ) "LEAST_TOLL":=.of (by kernel_rfl)
theorem ji:NmG (aa bJ) "MOST_TOLL":=.of (by kernel_rfl)
theorem Ja:NmG (aa bJ) "BadWeb":=.of (by kernel_rfl)
theorem CA (T:Txt K mg) (hq:aV (CXe P w)) {f:Addr} {fd:FuncData} (D:Df K mg "check_tolls" bJ ["road"] f fd):FnOk P w K mg base (CXe P w) 1 f fd ["road"] (tN T):=by
 refine D.F.okC tD (fun vs H Q E h=>?_) (fun cdv A outer s H vs Q E hr h=>?_)
 . obtain ⟨p,r,rfl,_⟩:=h
   rfl
 . obtain ⟨p,r,rfl,hp,t0,t1,u0,u1,k⟩:=h;refine ⟨_,(al (je PassesOwn.never rfl (wI (dM (af (au bo (pvl 0 mf) ag (fun _ _=>rfl)) (af (au bo (pvl 0 mf) ag (fun _ _=>rfl)) aj)))) (aP (i:=1) tD.nd rfl (Or.inl k8.l)) (al (aR (gn (G3 BS BS (Ab iz.g T.c_LEAST_TOLL (hd:=iz.d)) (pvl 1 k8) (Ab ji.g T.c_MOST_TOLL (hd:=ji.d)))) (al mw) aB)))),?_⟩;rw [show L2.start ["road","number"] [V.ref p]=[some (V.ref p),none] from rfl];walk_at "rd";refine ixT hp rfl (ixT hp rfl ⟨ax (by simp),fun q hn=>?_⟩);have e1:upd H q (.tup [.int r.t,.int r.u]) q=some (.tup [.int r.t,.int r.u]):=ah;refine ⟨⟨_,SqT.of e1⟩,C2 (K:=K) (xs:=[.int r.t,.int r.u]) (fun i σ H2=>H2=upd H q (.tup [.int r.t,.int r.u])/\∃ v,σ=[some (.ref p),v]) ⟨rfl,_,rfl⟩ (fun i σ H2 _ z=>by rw [z.1];exact SqT.of e1) ?_ ?_⟩
   . rintro i x σ H2 hi ⟨rfl,v,rfl⟩;have hx:∃ n:Int,x=.int n/\2<=n/\n<=1000000:=by
       match i,hi with
       | 0,hi=>exact ⟨r.t,by simpa using hi.symm,t0,t1⟩
       | 1,hi=>exact ⟨r.u,by simpa using hi.symm,u0,u1⟩
     obtain ⟨n,rfl,n0,n1⟩:=hx;walk_at "rd";rw [if_pos n0,if_neg (by omega)];exact ⟨_,rfl⟩
   . rintro σ H2 ⟨rfl,v,rfl⟩;exact k _ (Same.new _ hn)
/-- the attributes of a web -/
def A4 (m:Int) (t:Addr):List (Str × V):=dv "roads" (.ref t) (dv "many" (.int m) [])
theorem Ur:¬ (("many":Str)="roads"):=by decide +kernel
theorem gP (m:Int) (t:Addr):(A4 m t).lookup ("many":Str)=some (.int m):=by
 unfold A4;rw [dg,if_neg Ur,dg,if_pos rfl]
theorem rR (m:Int) (t:Addr):(A4 m t).lookup ("roads":Str)=some (.ref t):=by
 unfold A4;rw [dg,if_pos rfl]
/-- a web of m places and the roads rs stands at p,its tuple at t,the roads' tuples at ps -/
structure WebAt (C:Addr) (H:Hp) (p:Addr) (m:Int) (t:Addr) (ps:List Addr) (rs:List Road):Prop where
 ob:∃ dx,H p=some (.ins C dx (A4 m t))
 tu:H t=some (.tup (ps.map V.ref))
 ro:RoadsAt H ps rs
 go:Good m rs
theorem WebAt.same {C:Addr} {H H':Hp} {p:Addr} {m:Int} {t:Addr} {ps:List Addr} {rs:List Road} (e:Same H H') (h:WebAt C H p m t ps rs):WebAt C H' p m t ps rs :=
 ⟨let ⟨dx,q⟩:=h.ob;⟨dx,e _ _ q⟩,e _ _ h.tu,RoadsAt.same e h.ro,h.go⟩
def iC (T:Txt K mg):Sp:=fun vs H Q _=>∃ (p dx:Addr) (m:Int) (c:Bool) (a:Addr) (ps:List Addr) (rs:List Road),vs=[.ref p,.int m,.ref a]/\H p=some (.ins T.Web dx [])/\SqX K c H a (ps.map V.ref)/\RoadsAt H ps rs/\Good m rs /\
 ∀ t H',H t=none->WebAt T.Web H' p m t ps rs->(∀ b o,H b=some o->b≠p->H' b=some o)->Q .non H'
abbrev aQ:Stmt:=gm (top 17) 0
theorem lJ:FnScope ["self","many","roads","kept","road"] ["self","many","roads"] (aa aQ):=FnScope.of (by kernel_rfl)
theorem lx:NmL (aa aQ) "self":=.of (by kernel_rfl)
theorem d9:NmL (aa aQ) "many":=.of (by kernel_rfl)
theorem tJ:NmL (aa aQ) "roads":=.of (by kernel_rfl)
theorem dj:NmL (aa aQ) "kept":=.of (by kernel_rfl)
theorem gA:NmL (aa aQ) "road":=.of (by kernel_rfl)
theorem gl:NmG (aa aQ) "tuple":=.of (by kernel_rfl)
theorem f6:NmG (aa aQ) "check_counts":=.of (by kernel_rfl)
theorem gW:NmG (aa aQ) "check_ends":=.of (by kernel_rfl)
theorem gp:NmG (aa aQ) "check_tolls":=.of (by kernel_rfl)
theorem f9:NmG (aa aQ) "check_joined":=.of (by kernel_rfl)
theorem Bj (T:Txt K mg) (hq:aV (CXe P w)) {f:Addr} {fd:FuncData} (F:Fun K "__init__" "Web.__init__" aQ f fd) {dD:Addr} {qL:FuncData} (eL:Df K mg "check_counts" bw ["many","roads"] dD qL) (G_check_counts:FnOk P w K mg base (CXe P w) 1 dD qL ["many","roads"] (qK T)) {eP:Addr} {wa:FuncData} (f7:Df K mg "check_ends" cc ["many","road"] eP wa) (G_check_ends:FnOk P w K mg base (CXe P w) 2 eP wa ["many","road"] (wc T)) {dC:Addr} {qY:FuncData} (eJ:Df K mg "check_joined" aW ["many","roads"] dC qY) (G_check_joined:FnOk P w K mg base (CXe P w) 2 dC qY ["many","roads"] (rf T)) {dZ:Addr} {sV:FuncData} (fe:Df K mg "check_tolls" bJ ["road"] dZ sV) (G_check_tolls:FnOk P w K mg base (CXe P w) 1 dZ sV ["road"] (tN T)):FnOk P w K mg base (CXe P w) 3 f fd ["self","many","roads"] (iC T):=by
 refine F.okC lJ (fun vs H Q E h=>?_) (fun cdv A outer s H vs Q E hr h=>?_)
 . obtain ⟨p,dx,m,c,a,ps,rs,rfl,_⟩:=h
   rfl
 . obtain ⟨p,dx,m,c,a,ps,rs,rfl,hp,ha,hro,g,k⟩:=h;refine ⟨_,(ak (aJ (i:=3) lJ.nd rfl (Or.inl dj.l) (cQ d0 gl.g T.tuple jk (af (Cz rfl (Ad (Nc:=["road"]) 1 (by decide +kernel) (by decide +kernel) rfl (by decide +kernel) rfl) (Oh c (pvl 2 tJ)) (fun _ _ _ _=>(aP (i:=0) (show (["road"]:List Str).Nodup from by decide +kernel) rfl (Or.inl rfl))) (fun _ _ _ _=>CD) (fun _ _ _ _=>(cQ (CT K rfl) (by rfl) T.tuple jk (af (pv 0) aj)))) aj) (hn:=gl.n) (hdb:=gl.d))) (ak (bP (aE G_check_counts (hr.mono (by decide)) f6.g eL.m eL.F.kp eL.b .nil (bH hq) (af (pvl 1 d9) (af (pvl 3 dj) aj)) (hdb:=f6.d))) (ak (je PassesOwn.never rfl (wI (pvl 3 dj)) (aP (i:=4) lJ.nd rfl (Or.inl gA.l)) (ak (bP (aE G_check_ends (hr.mono (by decide)) gW.g f7.m f7.F.kp f7.b .nil (bH hq) (af (pvl 1 d9) (af (pvl 4 gA) aj)) (hdb:=gW.d))) (al (bP (aE G_check_tolls (hr.mono (by decide)) gp.g fe.m fe.F.kp fe.b .nil (bH hq) (af (pvl 4 gA) aj) (hdb:=gp.d)))))) (ak (bP (aE G_check_joined (hr.mono (by decide)) f9.g eJ.m eJ.F.kp eJ.b .nil (bH hq) (af (pvl 1 d9) (af (pvl 3 dj) aj)) (hdb:=f9.d))) (ak (A7 (pvl 0 lx) (pvl 1 d9) rfl) (al (A7 (pvl 0 lx) (pvl 3 dj) rfl))))))),?_⟩;rw [show L2.start ["self","many","roads","kept","road"] [V.ref p,V.int m,V.ref a]=[some (V.ref p),some (V.int m),some (V.ref a),none,none] from rfl];walk_at "rd";refine ⟨⟨_,ha⟩,fun l hl=>?_⟩;have hlen:ps.length=rs.length:=Paired.length hro;have glen:=g.len;have m24:=g.m24;have hl1:Same H (upd H l (.lst [])):=Same.new _ hl;refine Ft (K:=K) (xs:=ps.map V.ref) (fun i ys σ H2=>H2=upd H l (.lst ((ps.take i).map V.ref))/\ys=(ps.take i).map V.ref/\∃ v,σ=[v]) ⟨rfl,rfl,_,rfl⟩ (fun i ys σ H2 _ ⟨z,_⟩=>by rw [z];exact Same.sqX (Same.new _ hl) ha) ?_ ?_
   . rintro i x ys σ H2 N hN hi ⟨rfl,rfl,v,rfl⟩;obtain ⟨q,r,rfl,h1,h2,h3⟩:=hro.get hi;have nq:q≠l:=bi h3 hl;have hil:i<ps.length:=(List.getElem?_eq_some_iff.mp h1).1;have et:ps.take (i+1)=ps.take i++[q]:=(by rw [List.take_succ,h1];rfl);walk_at "rd";refine ⟨oO r,.inr ⟨SqT.of (by rw [aq nq];exact h3),ah,ir (by rw [List.length_map,List.length_take];omega),hN _ _ _ ⟨?_,?_,_,rfl⟩⟩⟩
     . rw [hJ,et,List.map_append];rfl
     . rw [et,List.map_append];rfl
   . rintro ys σ H2 ⟨rfl,rfl,v,rfl⟩;rw [List.length_map,List.take_length];refine ⟨l,rfl,ps.map V.ref,.inl ⟨SqL.of ah,fun t ht=>?_⟩⟩;have s1:Same H (upd H l (.lst (ps.map V.ref))):=Same.new _ hl;have s2:Same (upd H l (.lst (ps.map V.ref))) (upd (upd H l (.lst (ps.map V.ref))) t (.tup (ps.map V.ref))):=Same.new _ ht;have ht0:H t=none:=s1.free ht;have ht1:∀ {H':Hp},Same (upd (upd H l (.lst (ps.map V.ref))) t (.tup (ps.map V.ref))) H'->H' t=some (.tup (ps.map V.ref)):=fun e=>e _ _ ah;refine ⟨m,t,ps.map V.ref,rfl,SqT.of ah,g.m1,g.m24,by rw [List.length_map];omega,⟨_,SqT.of ah⟩,?_⟩;refine GZ (K:=K) (xs:=ps.map V.ref) (fun i σ H3=>Same (upd (upd H l (.lst (ps.map V.ref))) t (.tup (ps.map V.ref))) H3/\∃ v,σ=[some (.ref p),some (.int m),some (.ref a),some (.ref t),v]) ⟨Same.refl _,_,rfl⟩ (fun i σ H3 _ ⟨z,_⟩=>SqT.of (ht1 z)) ?_ ?_
     . rintro i x σ H3 N hN hi ⟨s3,v,rfl⟩;have s03:=s1.trans (s2.trans s3);obtain ⟨q,r,rfl,h1,h2,h3⟩:=hro.get hi;have ok:=g.ok r (List.mem_of_getElem? h2);walk_at "rd";refine ⟨m,q,r,rfl,s03 _ _ h3,ok.a0,ok.a1,ok.b0,ok.b1,ok.ne,?_⟩;exact ⟨q,r,rfl,s03 _ _ h3,ok.t0,ok.t1,ok.u0,ok.u1,fun H4 s4=>hN _ _ ⟨s3.trans s4,_,rfl⟩⟩
     . rintro σ H3 ⟨s3,v,rfl⟩;have s03:=s1.trans (s2.trans s3);walk_at "rd";refine ⟨m,t,ps,rs,rfl,SqT.of (ht1 s3),RoadsAt.same s03 hro,g,fun H4 s4=>?_⟩;have s04:=s03.trans s4;have ntp:t≠p:=fun z=>by rw [z,hp] at ht0;cases ht0
       refine ⟨T.Web,dx,[],s04 _ _ hp,T.iQ,T.n_many,by decide,?_⟩;refine ⟨T.Web,dx,_,ah,T.iQ,T.n_roads,by show 1<1000;decide,?_⟩;rw [hJ];refine k t _ ht0 ⟨⟨dx,ah⟩,?_,?_,g⟩ fun b o hb nb=>?_
       . rw [aq ntp];exact ht1 (s3.trans s4)
       . refine Paired.imp' (fun q r hq=>?_) hro;rw [aq (cY hq hp (by intro z;cases z))];exact s04 _ _ hq
       . rw [aq nb];exact s04 _ _ hb
/-- Web(m,roads),at a call: nothing is changed,a new web stands -/
theorem OC (T:Txt K mg) {H:Hp} {m:Int} {c:Bool} {a:Addr} {ps:List Addr} {rs:List Road} {Q:Addr->Hp->Prop} (ha:SqX K c H a (ps.map V.ref)) (ro:RoadsAt H ps rs) (g:Good m rs)
   (k:∀ x t H',H x=none->H t=none->Same H H'->WebAt T.Web H' x m t ps rs->Q x H') :
   ∀ x dx,H x=none->H dx=none->dx≠x->iC T [.ref x,.int m,.ref a] (upd (upd H dx (.own x)) x (.ins T.Web dx [])) (fun v H2=>v=.non/\Q x H2) E0:=by
 intro x dx hx hdx ne;have hx1:upd H dx (.own x) x=none:=by rw [aq ne.symm];exact hx
 have s0:Same H (upd (upd H dx (.own x)) x (.ins T.Web dx [])):=(Same.new _ hdx).trans (Same.new _ hx1);exact ⟨x,dx,m,c,a,ps,rs,rfl,ah,Same.sqX s0 ha,RoadsAt.same s0 ro,g,fun t H' ht W kp=>⟨rfl,k x t H' hx (s0.free ht) (fun b o e=>kp b o (s0 b o e) (bi e hx)) W⟩⟩
def wN (T:Txt K mg):Sp:=fun vs H Q _=>∃ (c:Int),vs=[.int c]/\∀ (p:Addr) (t u:Int),H p=none->2<=t->t<=1000000->2<=u->u<=1000000->Q (.ref p) (upd H p (.tup [.int t,.int u]))
abbrev cS:Stmt:=top 46
theorem gj:FnScope ["t","there","back"] ["t"] (aa cS):=FnScope.of (by kernel_rfl)
theorem dB:NmL (aa cS) "t":=.of (by kernel_rfl)
theorem fq:NmL (aa cS) "there":=.of (by kernel_rfl)
theorem fW:NmL (aa cS) "back":=.of (by kernel_rfl)
theorem FH (T:Txt K mg) (hq:aV (CXe P w)) {f:Addr} {fd:FuncData} (D:Df K mg "_law_tolls" cS ["t"] f fd):FnOk P w K mg base (CXe P w) 1 f fd ["t"] (wN T):=by
 refine D.F.okC gj (fun vs H Q E h=>?_) (fun cdv A outer s H vs Q E hr h=>?_)
 . obtain ⟨c,rfl,_⟩:=h
   rfl
 . obtain ⟨c,rfl,k⟩:=h;refine ⟨_,(ak (aJ (i:=1) gj.nd rfl (Or.inl fq.l) (ao cA ag (ao aO (ao aX (pvl 0 dB) ag) ag))) (ak (aJ (i:=2) gj.nd rfl (Or.inl fW.l) (ao cA ag (ao aO (ao aX (pvl 0 dB) ag) ag))) (ak (aR (ay bM (ao aO (pvl 0 dB) ag) ag (aD _)) (al (aJ (i:=2) gj.nd rfl (Or.inl fW.l) (pvl 1 fq))) aB) (ak (aR (PW.pt (lF (ay bM (ao aO (pvl 0 dB) ag) ag (aD _)) (jw (ay bM (ao aO (ao aX (pvl 0 dB) ag) ag) ag (aD _))))) (ak (aJ (i:=1) gj.nd rfl (Or.inl fq.l) (ao cA ag (ao aO (ao aX (pvl 0 dB) ag) ag))) (al (aJ (i:=2) gj.nd rfl (Or.inl fW.l) (ao cA ag (ao aO (ao aX (ao aX (pvl 0 dB) ag) ag) ag))))) aB) (al (aF (dM (af (pvl 1 fq) (af (pvl 2 fW) aj))))))))),?_⟩;rw [show L2.start ["t","there","back"] [V.int c]=[some (V.int c),none,none] from rfl];have em:∀ (x n:Int),0<n->0<=x % n/\x % n<n:=fun x n h=>⟨Int.emod_nonneg x (Int.ne_of_gt h),Int.emod_lt_of_pos x h⟩;have a1:=em (c / 4) 3 (by decide);have a2:=em (c / 12) 3 (by decide);have a3:=em (c / 144) 999999 (by decide);have a4:=em (c / 144 / 999999) 999999 (by decide);have cd:∀ x n:Int,0<n->n<1073741824->Ak x n:=fun x n h1 h2=>⟨h1,h2⟩;have z2:∀ x y:V,[x,y].length<=sizeLine:=fun x y=>ax (by simp);walk_at "rd";refine ⟨cd _ _ (by decide) (by decide),by decide,cd _ _ (by decide) (by decide),by decide,by decide,?_⟩;have far:Ak c 36/\(0:Int)<4/\Ak c 144/\(0:Int)<999999/\Ak (c / 144) 999999:=⟨cd _ _ (by decide) (by decide),by decide,cd _ _ (by decide) (by decide),by decide,cd _ _ (by decide) (by decide)⟩;obtain ⟨f1,f2,f3,f4,f5⟩:=far;have k1:∀ p,H p=none->Q (.ref p) (upd H p (.tup [.int (2+c / 144 % 999999),.int (2+c / 144 / 999999 % 999999)])):=fun p hp=>k p _ _ hp (by omega) (by omega) (by omega) (by omega);have k2:∀ p,H p=none->Q (.ref p) (upd H p (.tup [.int (2+c / 4 % 3),.int (2+c / 4 % 3)])):=fun p hp=>k p _ _ hp (by omega) (by omega) (by omega) (by omega);have k3:∀ p,H p=none->Q (.ref p) (upd H p (.tup [.int (2+c / 4 % 3),.int (2+c / 12 % 3)])):=fun p hp=>k p _ _ hp (by omega) (by omega) (by omega) (by omega);by_cases y1:c % 4=1
   . rw [if_pos y1];refine ⟨f2,?_⟩;rw [if_neg (by omega)];exact ⟨z2 _ _,k2⟩
   . rw [if_neg y1];refine ⟨f2,?_⟩;by_cases y2:c % 4=2
     . rw [if_pos y2];refine ⟨f1,f2,?_⟩;by_cases y3:c / 36 % 4=1
       . rw [if_pos y3];exact ⟨f3,f4,f3,f5,f4,z2 _ _,k1⟩
       . rw [if_neg y3];exact ⟨z2 _ _,k3⟩
     . rw [if_neg y2];exact ⟨z2 _ _,k3⟩
/-- the fields of a desk -/
def oQ (wb pl:Addr):List (Str × V):=dv "past" (.ref pl) (dv "web" (.ref wb) [])
theorem xz (wb pl:Addr):(oQ wb pl).lookup ("web":Str)=some (.ref wb):=by
 unfold oQ;rw [dg,if_neg (by decide +kernel),dg,if_pos rfl]
theorem lK (wb pl:Addr):(oQ wb pl).lookup ("past":Str)=some (.ref pl):=by
 unfold oQ;rw [dg,if_pos rfl]
theorem FM {wb pl:Addr} {m:Str} (h1:¬ m="past") (h2:¬ m="web"):(oQ wb pl).lookup m=none:=by
 unfold oQ;rw [dg,if_neg h1,dg,if_neg h2]
 rfl
/-- a laying and a wish stand at q -/
def StAt (H:Hp) (q:Addr) (s:List Int × List Int):Prop:=∃ a b,H q=some (.tup [.ref a,.ref b])/\H a=some (.tup (s.1.map V.int))/\H b=some (.tup (s.2.map V.int))
/-- a desk stands at o: its web at wb,what was at pl -/
structure DeskAt (C O:Addr) (H:Hp) (o wb pl:Addr) (m:Int) (t:Addr) (ps:List Addr) (rs:List Road) (sts:List (List Int × List Int)):Prop where
 ob:∃ dx,H o=some (.ins O dx (oQ wb pl))
 web:WebAt C H wb m t ps rs
 pa:∃ qs:List Addr,H pl=some (.lst (qs.map V.ref))/\Paired (StAt H) qs sts
theorem DeskAt.same {C O:Addr} {H H':Hp} {o wb pl:Addr} {m:Int} {t:Addr} {ps:List Addr} {rs:List Road} {sts:List (List Int × List Int)} (e:Same H H') (h:DeskAt C O H o wb pl m t ps rs sts):DeskAt C O H' o wb pl m t ps rs sts :=
 ⟨let ⟨dx,q⟩:=h.ob;⟨dx,e _ _ q⟩,h.web.same e,let ⟨qs,h1,h2⟩:=h.pa;⟨qs,e _ _ h1,Paired.imp' (fun q s ⟨a,b,x,y,z⟩=>⟨a,b,e _ _ x,e _ _ y,e _ _ z⟩) h2⟩⟩
/-- only what was at l has changed -/
theorem StAt.kpt {H H':Hp} {l q:Addr} {s:List Int × List Int} {xs:List V} (e:Kpt l H H') (hl:H l=some (.lst xs)) (h:StAt H q s):StAt H' q s:=by
 obtain ⟨a,b,x,y,z⟩:=h;exact ⟨a,b,e _ _ x (cY x hl (by intro z;cases z)),e _ _ y (cY y hl (by intro z;cases z)),e _ _ z (cY z hl (by intro z;cases z))⟩
theorem WebAt.kptL {C:Addr} {H H':Hp} {l p:Addr} {m:Int} {t:Addr} {ps:List Addr} {rs:List Road} {xs:List V} (e:Kpt l H H') (hl:H l=some (.lst xs)) (h:WebAt C H p m t ps rs):WebAt C H' p m t ps rs :=
 ⟨let ⟨dx,q⟩:=h.ob;⟨dx,e _ _ q (cY q hl (by intro z;cases z))⟩,e _ _ h.tu (cY h.tu hl (by intro z;cases z)),Paired.imp' (fun q x z=>e _ _ z (cY z hl (by intro z;cases z))) h.ro,h.go⟩
theorem WebAt.kptI {C O:Addr} {H H':Hp} {o p:Addr} {m:Int} {t dx:Addr} {ps:List Addr} {rs:List Road} {fs:List (Str × V)} (e:Kpt o H H') (ho:H o=some (.ins O dx fs)) (h:WebAt C H p m t ps rs) (n:p≠o:=by assumption):WebAt C H' p m t ps rs :=
 ⟨let ⟨dx,q⟩:=h.ob;⟨dx,e _ _ q n⟩,e _ _ h.tu (cY h.tu ho (by intro z;cases z)),Paired.imp' (fun q x z=>e _ _ z (cY z ho (by intro z;cases z))) h.ro,h.go⟩
theorem DeskAt.kpt {C O:Addr} {H H':Hp} {o wb pl l:Addr} {m:Int} {t:Addr} {ps:List Addr} {rs:List Road} {sts:List (List Int × List Int)} {xs:List V} (e:Kpt l H H') (hl:H l=some (.lst xs)) (n:pl≠l) (h:DeskAt C O H o wb pl m t ps rs sts):DeskAt C O H' o wb pl m t ps rs sts :=
 ⟨let ⟨dx,q⟩:=h.ob;⟨dx,e _ _ q (cY q hl (by intro z;cases z))⟩,h.web.kptL e hl,let ⟨qs,h1,h2⟩:=h.pa;⟨qs,e _ _ h1 n,Paired.imp' (fun q s x=>x.kpt e hl) h2⟩⟩
/-- the newest one -/
theorem DeskAt.last {C O:Addr} {H:Hp} {o wb pl:Addr} {m:Int} {t:Addr} {ps:List Addr} {rs:List Road} {sts:List (List Int × List Int)} {s:List Int × List Int} (h:DeskAt C O H o wb pl m t ps rs (sts++[s])):∃ (qs:List Addr) (q a b:Addr),H pl=some (.lst ((qs++[q]).map V.ref))/\Paired (StAt H) qs sts/\atI ((qs++[q]).map V.ref) (-1)=some (.ref q)/\H q=some (.tup [.ref a,.ref b])/\H a=some (.tup (s.1.map V.int))/\H b=some (.tup (s.2.map V.int)):=by
 obtain ⟨qs,h1,h2⟩:=h.pa;obtain ⟨qs',q,rfl,h3,a,b,h4,h5,h6⟩:=vD h2;refine ⟨qs',q,a,b,h1,h3,?_,h4,h5,h6⟩;rw [List.map_append];exact IV _ _
theorem DeskAt.meth {C O:Addr} {H:Hp} {o wb pl:Addr} {m:Int} {t:Addr} {ps:List Addr} {rs:List Road} {sts:List (List Int × List Int)} (h:DeskAt C O H o wb pl m t ps rs sts) {mt:Str} {R:Prop} (q:R) (h1:¬ mt="past":=by decide +kernel) (h2:¬ mt="web":=by decide +kernel):∃ x x_1,H o=some (.ins O x x_1)/\x_1.lookup mt=none/\R :=
 let ⟨dx,ob⟩:=h.ob;⟨dx,_,ob,FM h1 h2,q⟩
theorem DeskAt.wb_ {C O:Addr} {H:Hp} {o wb pl:Addr} {m:Int} {t:Addr} {ps:List Addr} {rs:List Road} {sts:List (List Int × List Int)} (T:Cls K O) (T2:NoAttr K O "web") (h:DeskAt C O H o wb pl m t ps rs sts) {R:V->Prop} (q:R (.ref wb)):∃ x x_1 x_2,H o=some (.ins x x_1 x_2)/\Cls K x/\NoAttr K x "web"/\∃ x_3,x_2.lookup ("web":Str)=some x_3/\R x_3 :=
 let ⟨dx,ob⟩:=h.ob;⟨O,dx,_,ob,T,T2,_,xz _ _,q⟩
def ko (T:Txt K mg):Sp:=fun vs H Q _=>∃ (o dx w t:Addr) (m:Int) (ps:List Addr) (rs:List Road),vs=[.ref o,.ref w]/\H o=some (.ins T.Desk dx [])/\WebAt T.Web H w m t ps rs /\
 ∀ wb pl t' H',H pl=none->DeskAt T.Web T.Desk H' o wb pl m t' ps rs [(zrs m,zrs m)]->(∀ b x,H b=some x->b≠o->H' b=some x)->Q .non H'
abbrev bx:Stmt:=gm (top 42) 0
theorem pr:FnScope ["self","web","noughts"] ["self","web"] (aa bx):=FnScope.of (by kernel_rfl)
theorem k7:NmL (aa bx) "self":=.of (by kernel_rfl)
theorem gu:NmL (aa bx) "web":=.of (by kernel_rfl)
theorem eU:NmL (aa bx) "noughts":=.of (by kernel_rfl)
theorem lD:NmG (aa bx) "Web":=.of (by kernel_rfl)
theorem fL:NmG (aa bx) "tuple":=.of (by kernel_rfl)
theorem Al (T:Txt K mg) (hq:aV (CXe P w)) {f:Addr} {fd:FuncData} (F:Fun K "__init__" "Desk.__init__" bx f fd) {f_Web___init__:Addr} {dl:FuncData} (F_Web___init__:Fun K "__init__" "Web.__init__" aQ f_Web___init__ dl) (b_Web:Binds K dl ["self","many","roads"] []) (yW:Mk K T.Web f_Web___init__) (G_Web_init:FnOk P w K mg base (CXe P w) 3 f_Web___init__ dl ["self","many","roads"] (iC T)):FnOk P w K mg base (CXe P w) 5 f fd ["self","web"] (ko T):=by
 refine F.okC pr (fun vs H Q E h=>?_) (fun cdv A outer s H vs Q E hr h=>?_)
 . obtain ⟨o,dx,w,t,m,ps,rs,rfl,_⟩:=h
   rfl
 . obtain ⟨o,dx,w,t,m,ps,rs,rfl,ho,W,k⟩:=h;have g:=W.go;have m24:=g.m24;have m1:=g.m1;obtain ⟨dw,wb⟩:=W.ob;refine ⟨_,(ak (A7 (pvl 0 k7) (Cc yW G_Web_init (hr.mono (by decide)) lD.g T.RU b_Web .nil (bH hq) (af (dA  (pvl 1 gu) rfl) (af (dA  (pvl 1 gu) rfl) aj)) (hdb:=lD.d)) rfl) (ak (aJ (i:=2) pr.nd rfl (Or.inl eU.l) (cQ d0 fL.g T.tuple jk (af (ao AV (bE (af ag aj)) (dA  (pvl 1 gu) rfl)) aj) (hn:=fL.n) (hdb:=fL.d))) (al (A7 (pvl 0 k7) (bE (af (dM (af (pvl 2 eU) (af (pvl 2 eU) aj))) aj)) rfl)))),?_⟩;rw [show L2.start ["self","web","noughts"] [V.ref o,V.ref w]=[some (V.ref o),some (V.ref w),none] from rfl];walk_at "rd";refine ⟨T.Web,dw,_,wb,T.iQ,T.n_many,_,gP _ _,T.Web,dw,_,wb,T.iQ,T.n_roads,_,rR _ _,?_⟩;refine OC T (c:=false) (SqT.of W.tu) W.ro g fun x tw H1 hx htw s1 W1=>?_;have ho1:=s1 _ _ ho;have nxo:x≠o:=fun z=>by rw [z,ho] at hx;cases hx
   have nwo:w≠o:=cY wb ho (by
     intro z;injection z with _ _ z
     have:=gP m t;rw [z] at this;cases this)
   refine ⟨T.Desk,dx,[],ho1,T.bp,T.n_web,by decide,by decide,fun l1 n1=>?_⟩;have k1:Kpt o H (upd H1 o (.ins T.Desk dx (dv "web" (.ref x) []))):=(Kpt.refl.then s1).put _;have o1:upd H1 o (.ins T.Desk dx (dv "web" (.ref x) [])) o=some (.ins T.Desk dx (dv "web" (.ref x) [])):=ah;have kw:Kpt o H1 (upd H1 o (.ins T.Desk dx (dv "web" (.ref x) []))):=Kpt.refl.put _;have kn:∀ {p:Addr},upd H1 o (.ins T.Desk dx (dv "web" (.ref x) [])) p=none->H1 p=none:=fun {p} h=>by
     cases e:H1 p with
     | none=>rfl
     | some y =>
       by_cases z:p=o
       . rw [z,o1] at h;cases h
       . rw [kw p y e z] at h;cases h
   have W2:WebAt T.Web (upd H1 o (.ins T.Desk dx (dv "web" (.ref x) []))) x m tw ps rs:=W1.kptI kw ho1;have W2':WebAt T.Web (upd H1 o (.ins T.Desk dx (dv "web" (.ref x) []))) w m t ps rs:=(W.same s1).kptI kw ho1;generalize upd H1 o (.ins T.Desk dx (dv "web" (.ref x) []))=H2 at k1 o1 kw kn W2 W2' n1 ⊢;obtain ⟨dw2,wb2⟩:=W2'.ob;have v1:=Same.new (.lst [V.int 0]) n1;refine ⟨T.Web,dw2,_,v1 _ _ wb2,T.iQ,T.n_many,_,gP _ _,?_⟩;refine ⟨l1,m,[V.int 0],rfl,rfl,ah,by omega,by omega,ax (by simp;omega),fun l2 n2=>?_⟩;rw [Gc,<- IY];have v2:=v1.trans (Same.new (.lst ((zrs m).map V.int)) n2);have e2:upd (upd H2 l1 (.lst [V.int 0])) l2 (.lst ((zrs m).map V.int)) l2=some (.lst ((zrs m).map V.int)):=ah;generalize upd (upd H2 l1 (.lst [V.int 0])) l2 (.lst ((zrs m).map V.int))=H3 at v2 e2 ⊢;refine ⟨l2,rfl,_,.inl ⟨SqL.of e2,fun l3 n3=>?_⟩⟩;have v3:=v2.trans (Same.new (.tup ((zrs m).map V.int)) n3);have e3:upd H3 l3 (.tup ((zrs m).map V.int)) l3=some (.tup ((zrs m).map V.int)):=ah;generalize upd H3 l3 (.tup ((zrs m).map V.int))=H4 at v3 e3 ⊢;refine ⟨ax (by simp),fun l4 n4=>⟨ax (by simp),fun l5 n5=>?_⟩⟩;have v4:=v3.trans (Same.new (.tup [V.ref l3,V.ref l3]) n4);have e4:upd H4 l4 (.tup [V.ref l3,V.ref l3]) l4=some (.tup [V.ref l3,V.ref l3]):=ah;have e34:=Same.new (.tup [V.ref l3,V.ref l3]) n4 _ _ e3;generalize upd H4 l4 (.tup [V.ref l3,V.ref l3])=H5 at v4 e4 e34 n5 ⊢;have v5s:=Same.new (.lst [V.ref l4]) n5;have v5:=v4.trans v5s;have e5:upd H5 l5 (.lst [V.ref l4]) l5=some (.lst [V.ref l4]):=ah;have e45:=v5s _ _ e4;have e35:=v5s _ _ e34;have n5H2:=v4.free n5;generalize upd H5 l5 (.lst [V.ref l4])=H6 at v5 e5 e45 e35 ⊢;have o6:=v5 _ _ o1;refine ⟨T.Desk,dx,_,o6,T.bp,T.n_past,by show 1<1000;decide,?_⟩;have k6:Kpt o H6 (upd H6 o (.ins T.Desk dx (oQ x l5))):=Kpt.refl.put _;have n5H:H l5=none:=s1.free (kn n5H2);show Q .non (upd H6 o (.ins T.Desk dx (oQ x l5)));refine k x l5 tw _ n5H ⟨⟨dx,ah⟩,(W2.same v5).kptI k6 o6,[l4],k6 _ _ e5 (cY e5 o6 (by intro z;cases z)),.cons ⟨l3,l3,k6 _ _ e45 (cY e45 o6 (by intro z;cases z)),k6 _ _ e35 (cY e35 o6 (by intro z;cases z)),k6 _ _ e35 (cY e35 o6 (by intro z;cases z))⟩ .nil⟩ ?_;exact fun b x hb nb=>k6 _ _ (v5 _ _ (k1 b x hb nb)) nb
def nW (T:Txt K mg):Sp:=fun vs H Q _=>∃ (o wb pl t:Addr) (m:Int) (ps:List Addr) (rs:List Road) (sts:List (List Int × List Int)),vs=[.ref o]/\DeskAt T.Web T.Desk H o wb pl m t ps rs sts/\Q (.int ((sts.length:Int) - 1)) H
abbrev cV:Stmt:=gm (top 42) 8
theorem Ez:FnScope ["self"] ["self"] (aa cV):=FnScope.of (by kernel_rfl)
theorem xJ:NmL (aa cV) "self":=.of (by kernel_rfl)
theorem jP:NmG (aa cV) "len":=.of (by kernel_rfl)
theorem Ex (T:Txt K mg) (hq:aV (CXe P w)) {f:Addr} {fd:FuncData} (F:Fun K "deeds" "Desk.deeds" cV f fd):FnOk P w K mg base (CXe P w) 1 f fd ["self"] (nW T):=by
 refine F.okC Ez (fun vs H Q E h=>?_) (fun cdv A outer s H vs Q E hr h=>?_)
 . obtain ⟨o,wb,pl,t,m,ps,rs,sts,rfl,_⟩:=h
   rfl
 . obtain ⟨o,wb,pl,t,m,ps,rs,sts,rfl,O,k⟩:=h;obtain ⟨dx,ob⟩:=O.ob;obtain ⟨qs,h1,h2⟩:=O.pa;refine ⟨_,(al (aF (ao gS (ba bL jP.g T.len eN (af (dA  (pvl 0 xJ) rfl) aj) (hn:=jP.n) (hdb:=jP.d)) ag))),?_⟩;rw [show L2.start ["self"] [V.ref o]=[some (V.ref o)] from rfl];walk_at "rd";refine ⟨T.Desk,dx,_,ob,T.bp,T.n_past,_,lK _ _,pl,rfl,_,.inl (SqL.of h1),?_⟩;rw [List.length_map,Paired.length h2];exact k
def gc (T:Txt K mg):Sp:=fun vs H Q _=>∃ (o wb pl t:Addr) (m:Int) (ps:List Addr) (rs:List Road) (sts:List (List Int × List Int)) (s:List Int × List Int),vs=[.ref o]/\DeskAt T.Web T.Desk H o wb pl m t ps rs (sts++[s])/\∀ a,H a=some (.tup (s.1.map V.int))->Q (.ref a) H
abbrev ce:Stmt:=gm (top 42) 6
theorem Cv:FnScope ["self"] ["self"] (aa ce):=FnScope.of (by kernel_rfl)
theorem wu:NmL (aa ce) "self":=.of (by kernel_rfl)
theorem CC (T:Txt K mg) (hq:aV (CXe P w)) {f:Addr} {fd:FuncData} (F:Fun K "laying" "Desk.laying" ce f fd):FnOk P w K mg base (CXe P w) 1 f fd ["self"] (gc T):=by
 refine F.okC Cv (fun vs H Q E h=>?_) (fun cdv A outer s H vs Q E hr h=>?_)
 . obtain ⟨o,wb,pl,t,m,ps,rs,sts,s,rfl,_⟩:=h
   rfl
 . obtain ⟨o,wb,pl,t,m,ps,rs,sts,s,rfl,O,k⟩:=h;obtain ⟨dx,ob⟩:=O.ob;obtain ⟨qs,q,a,b,h1,_,h3,h4,h5,h6⟩:=O.last;refine ⟨_,(al (aF (au bo (au av (dA  (pvl 0 wu) rfl) (fX d6 ag) (fun _ _=>rfl)) ag (fun _ _=>rfl)))),?_⟩;rw [show L2.start ["self"] [V.ref o]=[some (V.ref o)] from rfl];walk_at "rd";refine ⟨T.Desk,dx,_,ob,T.bp,T.n_past,_,lK _ _,ixL h1 h3 ?_⟩;exact ⟨q,_,0,_,rfl,rfl,SqT.of h4,rfl,k a h5⟩
def iG (T:Txt K mg):Sp:=fun vs H Q _=>∃ (o wb pl t:Addr) (m:Int) (ps:List Addr) (rs:List Road) (sts:List (List Int × List Int)) (s:List Int × List Int),vs=[.ref o]/\DeskAt T.Web T.Desk H o wb pl m t ps rs (sts++[s])/\∀ a,H a=some (.tup (s.2.map V.int))->Q (.ref a) H
abbrev cW:Stmt:=gm (top 42) 7
theorem Gz:FnScope ["self"] ["self"] (aa cW):=FnScope.of (by kernel_rfl)
theorem ze:NmL (aa cW) "self":=.of (by kernel_rfl)
theorem F6 (T:Txt K mg) (hq:aV (CXe P w)) {f:Addr} {fd:FuncData} (F:Fun K "wish" "Desk.wish" cW f fd):FnOk P w K mg base (CXe P w) 1 f fd ["self"] (iG T):=by
 refine F.okC Gz (fun vs H Q E h=>?_) (fun cdv A outer s H vs Q E hr h=>?_)
 . obtain ⟨o,wb,pl,t,m,ps,rs,sts,s,rfl,_⟩:=h
   rfl
 . obtain ⟨o,wb,pl,t,m,ps,rs,sts,s,rfl,O,k⟩:=h;obtain ⟨dx,ob⟩:=O.ob;obtain ⟨qs,q,a,b,h1,_,h3,h4,h5,h6⟩:=O.last;refine ⟨_,(al (aF (au bo (au av (dA  (pvl 0 ze) rfl) (fX d6 ag) (fun _ _=>rfl)) ag (fun _ _=>rfl)))),?_⟩;rw [show L2.start ["self"] [V.ref o]=[some (V.ref o)] from rfl];walk_at "rd";refine ⟨T.Desk,dx,_,ob,T.bp,T.n_past,_,lK _ _,ixL h1 h3 ?_⟩;exact ⟨q,_,1,_,rfl,rfl,SqT.of h4,rfl,k b h6⟩
def ya (T:Txt K mg):Sp:=fun vs H Q _=>∃ (l:Addr) (ps:List Addr) (rs:List Road) (a b:Int),vs=[.ref l,.int a,.int b]/\H l=some (.lst (ps.map V.ref))/\RoadsAt H ps rs/\(∀ k,bF rs a b=some k->Q (.int k) H)/\(bF rs a b=none->Q .non H)
abbrev bO:Stmt:=top 48
theorem iH:FnScope ["roads","a","b","one","other","there","back"] ["roads","a","b"] (aa bO):=FnScope.of (by kernel_rfl)
theorem yD:NmL (aa bO) "roads":=.of (by kernel_rfl)
theorem tL:NmL (aa bO) "a":=.of (by kernel_rfl)
theorem sW:NmL (aa bO) "b":=.of (by kernel_rfl)
theorem kg:NmL (aa bO) "one":=.of (by kernel_rfl)
theorem iI:NmL (aa bO) "other":=.of (by kernel_rfl)
theorem nI:NmL (aa bO) "there":=.of (by kernel_rfl)
theorem oC:NmL (aa bO) "back":=.of (by kernel_rfl)
theorem GS (T:Txt K mg) (hq:aV (CXe P w)) {f:Addr} {fd:FuncData} (D:Df K mg "_law_price" bO ["roads","a","b"] f fd):FnOk P w K mg base (CXe P w) 1 f fd ["roads","a","b"] (ya T):=by
 refine D.F.okC iH (fun vs H Q E h=>?_) (fun cdv A outer s H vs Q E hr h=>?_)
 . obtain ⟨l,ps,rs,a,b,rfl,_⟩:=h
   rfl
 . obtain ⟨l,ps,rs,a,b,rfl,hl,ro,k,k2⟩:=h;refine ⟨_,(ak (je PassesOwn.never rfl (y4 (pvl 0 yD)) (jW (n:=4) rfl (aZ (aP (i:=3) iH.nd rfl (Or.inl kg.l)) (aZ (aP (i:=4) iH.nd rfl (Or.inl iI.l)) (aZ (aP (i:=5) iH.nd rfl (Or.inl nI.l)) (aZ (aP (i:=6) iH.nd rfl (Or.inl oC.l)) hG))))) (ak (aR (PW.pt (lF (ay bM (pvl 3 kg) (pvl 1 tL) (aD _)) (jw (ay bM (pvl 4 iI) (pvl 2 sW) (aD _))))) (al (aF (pvl 5 nI))) aB) (al (aR (PW.pt (lF (ay bM (pvl 3 kg) (pvl 2 sW) (aD _)) (jw (ay bM (pvl 4 iI) (pvl 1 tL) (aD _))))) (al (aF (pvl 6 oC))) aB)))) (al (aF Nw))),?_⟩;rw [show L2.start ["roads","a","b","one","other","there","back"] [V.ref l,V.int a,V.int b]=[some (V.ref l),some (V.int a),some (V.int b),none,none,none,none] from rfl];walk_at "rd";have hlen:ps.length=rs.length:=Paired.length ro;refine ⟨⟨_,SqL.of hl⟩,?_⟩;refine yz (K:=K) (xs:=ps.map V.ref) (fun i σ H2=>H2=H/\bF (rs.take i) a b=none/\∃ v1 v2 v3 v4,σ=[some (V.ref l),some (V.int a),some (V.int b),v1,v2,v3,v4]) ⟨rfl,rfl,_,_,_,_,rfl⟩ (fun i σ H2 _ z=>by rw [z.1];exact SqL.of hl) ?_ ?_
   . rintro i x σ H2 N hN hx ⟨rfl,hno,v1,v2,v3,v4,rfl⟩;obtain ⟨q,r,rfl,h1,h2,h3⟩:=ro.get hx;have et:rs.take (i+1)=rs.take i++[r]:=(by rw [List.take_succ,h2];rfl);have split:bF rs a b=(bF (rs.take i) a b).or ((dU a b r).or (bF (rs.drop (i+1)) a b)):=by
       have:rs=rs.take i++r::rs.drop (i+1):=by
         have hil:i<rs.length:=(List.getElem?_eq_some_iff.mp h2).1;have e:rs[i]=r:=(by rw [List.getElem?_eq_getElem hil] at h2;exact Option.some.inj h2);rw [<- e,List.getElem_cons_drop,List.take_append_drop]
       conv=>lhs;rw [this]
       unfold bF;rw [List.findSome?_append,List.findSome?_cons];cases dU a b r <;> rfl
     rw [hno,Option.none_or] at split;walk_at "rd";refine ⟨_,SqT.of h3,rfl,_,_,rfl,_,_,rfl,_,_,rfl,_,_,rfl,rfl,?_⟩;walk_at "rd";have next:dU a b r=none->N [some (V.ref l),some (V.int a),some (V.int b),some (V.int r.a),some (V.int r.b),some (V.int r.t),some (V.int r.u)] H2:=fun z=>hN _ _ ⟨rfl,by
       rw [et];unfold bF at hno ⊢;rw [List.findSome?_append,hno,List.findSome?_cons,z]
       rfl,_,_,_,_,rfl⟩
     have got:∀ v,dU a b r=some v->bF rs a b=some v:=fun v z=>by rw [split,z];rfl
     unfold dU at next got;split
     . rename_i c1
       split
       . rename_i c2
         exact k _ (got _ (by rw [if_pos ⟨c1,c2⟩]))
       . rename_i c2
         split
         . rename_i c3
           split
           . rename_i c4
             exact k _ (got _ (by rw [if_neg (fun z=>c2 z.2),if_pos ⟨c3,c4⟩]))
           . rename_i c4
             exact next (by rw [if_neg (fun z=>c2 z.2),if_neg (fun z=>c4 z.2)])
         . rename_i c3
           exact next (by rw [if_neg (fun z=>c2 z.2),if_neg (fun z=>c3 z.1)])
     . rename_i c1
       split
       . rename_i c3
         split
         . rename_i c4
           exact k _ (got _ (by rw [if_neg (fun z=>c1 z.1),if_pos ⟨c3,c4⟩]))
         . rename_i c4
           exact next (by rw [if_neg (fun z=>c1 z.1),if_neg (fun z=>c4 z.2)])
       . rename_i c3
         exact next (by rw [if_neg (fun z=>c1 z.1),if_neg (fun z=>c3 z.1)])
   . rintro σ H2 ⟨rfl,hno,v1,v2,v3,v4,rfl⟩;rw [List.length_map,hlen,List.take_length] at hno;walk_at "rd";exact k2 hno
def ow (T:Txt K mg):Sp:=fun vs H Q _=>∃ (l la lb ln:Addr) (ps:List Addr) (rs:List Road) (m:Int) (s:List Int × List Int) (D:De),vs=[.ref l,.ref la,.ref lb,.str D.wd,.ref ln]/\H l=some (.lst (ps.map V.ref))/\RoadsAt H ps rs/\Good m rs/\H la=some (.lst (s.1.map V.int))/\H lb=some (.lst (s.2.map V.int))/\H ln=some (.lst (D.ns.map V.int))/\(s.1.length:Int)=m/\(s.2.length:Int)=m/\D.Ok m /\
 (bhe m rs s D=none->∀ H',Same H H'->Q .non H')/\(∀ s',bhe m rs s D=some s'->∀ q a b H',Same H H'->H a=none->H b=none->H' q=some (.tup [.ref a,.ref b])->H' a=some (.lst (s'.1.map V.int))->H' b=some (.lst (s'.2.map V.int))->Q (.ref q) H')
abbrev aY:Stmt:=top 52
theorem kf:FnScope ["roads","held","wish","deed","numbers","now","wants","each"] ["roads","held","wish","deed","numbers"] (aa aY):=FnScope.of (by kernel_rfl)
theorem wj:NmL (aa aY) "roads":=.of (by kernel_rfl)
theorem xw:NmL (aa aY) "held":=.of (by kernel_rfl)
theorem xE:NmL (aa aY) "wish":=.of (by kernel_rfl)
theorem jq:NmL (aa aY) "deed":=.of (by kernel_rfl)
theorem aA:NmL (aa aY) "numbers":=.of (by kernel_rfl)
theorem bS:NmL (aa aY) "now":=.of (by kernel_rfl)
theorem ie:NmL (aa aY) "wants":=.of (by kernel_rfl)
theorem fE:NmL (aa aY) "each":=.of (by kernel_rfl)
theorem da:NmG (aa aY) "list":=.of (by kernel_rfl)
theorem jI:NmG (aa aY) "_law_price":=.of (by kernel_rfl)
theorem Et (T:Txt K mg) (hq:aV (CXe P w)) {f:Addr} {fd:FuncData} (D:Df K mg "_law_behind" aY ["roads","held","wish","deed","numbers"] f fd) {fJ:Addr} {yx:FuncData} (g9:Df K mg "_law_price" bO ["roads","a","b"] fJ yx) (G_law_price:FnOk P w K mg base (CXe P w) 1 fJ yx ["roads","a","b"] (ya T)):FnOk P w K mg base (CXe P w) 2 f fd ["roads","held","wish","deed","numbers"] (ow T):=by
 refine D.F.okC kf (fun vs H Q E h=>?_) (fun cdv A outer s H vs Q E hr h=>?_)
 . obtain ⟨l,la,lb,ln,ps,rs,m,s,D,rfl,_⟩:=h
   rfl
 . obtain ⟨l,la,lb,ln,ps,rs,m,s,D',rfl,hl,ro,g,ha,hb,hn,xl,yl,ok,kn,ks⟩:=h;have m24:=g.m24;refine ⟨_,(ak (aJ (i:=5) kf.nd rfl (Or.inl bS.l) (cQ jb da.g T.list tV (af (pvl 1 xw) aj) (hn:=da.n) (hdb:=da.d))) (ak (aJ (i:=6) kf.nd rfl (Or.inl ie.l) (cQ jb da.g T.list tV (af (pvl 2 xE) aj) (hn:=da.n) (hdb:=da.d))) (ak (aR (ay bM (pvl 3 jq) aN (aD _)) (al (iL (ao cA (au av (pvl 5 bS) (au av (pvl 4 aA) ag (fun _ _=>rfl)) (fun _ _=>rfl)) (au av (pvl 4 aA) ag (fun _ _=>rfl))) (xQ (pvl 5 bS) (au av (pvl 4 aA) ag (fun _ _=>rfl)) iY))) aB) (ak (aR (ay bM (pvl 3 jq) aN (aD _)) (al (iL (au av (pvl 4 aA) ag (fun _ _=>rfl)) (xQ (pvl 6 ie) (au av (pvl 4 aA) ag (fun _ _=>rfl)) iY))) aB) (ak (aR (ay bM (pvl 3 jq) aN (aD _)) (ak (aJ (i:=7) kf.nd rfl (Or.inl fE.l) (aE G_law_price (hr.mono (by decide)) jI.g g9.m g9.F.kp g9.b .nil (bH hq) (af (pvl 0 wj) (af (au av (pvl 4 aA) ag (fun _ _=>rfl)) (af (au av (pvl 4 aA) ag (fun _ _=>rfl)) aj))) (hdb:=jI.d))) (ak (aR (PW.pt (oX (OU (NF (pvl 7 fE))) (oX (ay oW (au av (pvl 4 aA) ag (fun _ _=>rfl)) ag (aD _)) (ni (ay oW (au av (pvl 5 bS) (au av (pvl 4 aA) ag (fun _ _=>rfl)) (fun _ _=>rfl)) (ao nj (pvl 7 fE) (au av (pvl 4 aA) ag (fun _ _=>rfl))) (aD _)))))) (al (aF Nw)) aB) (ak (iL (ao gS (au av (pvl 5 bS) (au av (pvl 4 aA) ag (fun _ _=>rfl)) (fun _ _=>rfl)) (ao nj (pvl 7 fE) (au av (pvl 4 aA) ag (fun _ _=>rfl)))) (xQ (pvl 5 bS) (au av (pvl 4 aA) ag (fun _ _=>rfl)) iY)) (al (iL (ao cA (au av (pvl 5 bS) (au av (pvl 4 aA) ag (fun _ _=>rfl)) (fun _ _=>rfl)) (au av (pvl 4 aA) ag (fun _ _=>rfl))) (xQ (pvl 5 bS) (au av (pvl 4 aA) ag (fun _ _=>rfl)) iY)))))) aB) (al (aF (dM (af (pvl 5 bS) (af (pvl 6 ie) aj)))))))))),?_⟩;rw [show L2.start ["roads","held","wish","deed","numbers","now","wants","each"] [V.ref l,V.ref la,V.ref lb,V.str D'.wd,V.ref ln]=[some (V.ref l),some (V.ref la),some (V.ref lb),some (V.str D'.wd),some (V.ref ln),none,none,none] from rfl];refine cs fun N1 h1=>?_;walk_at "rd";refine ⟨_,.inl (SqL.of ha),fun l1 n1=>h1 _ _ (cs fun N2 h2=>?_)⟩;have s1:=Same.new (.lst (s.1.map V.int)) n1;have e1:upd H l1 (.lst (s.1.map V.int)) l1=some (.lst (s.1.map V.int)):=ah;generalize upd H l1 (.lst (s.1.map V.int))=H1 at s1 e1 ⊢;walk_at "rd";refine ⟨_,.inl (SqL.of (s1 _ _ hb)),fun l2 n2=>h2 _ _ ?_⟩;have s2:=Same.new (.lst (s.2.map V.int)) n2;have e2:upd H1 l2 (.lst (s.2.map V.int)) l2=some (.lst (s.2.map V.int)):=ah;have e12:=s2 _ _ e1;have s02:=s1.trans s2;have n20:=s1.free n2;have nl12:l1≠l2:=fun z=>by rw [<- z,e1] at n2;cases n2
   generalize upd H1 l2 (.lst (s.2.map V.int))=H2 at e2 e12 s02 ⊢;have hn2:=s02 _ _ hn;have pair:∀ (H3:Hp) (s':List Int × List Int),Same H H3->bhe m rs s D'=some s'->H3 l1=some (.lst (s'.1.map V.int))->H3 l2=some (.lst (s'.2.map V.int))->[V.ref l1,V.ref l2].length<=sizeLine/\∀ (p:Addr),H3 p=none->Q (V.ref p) (upd H3 p (HO.tup [V.ref l1,V.ref l2])):=fun H3 s' s3 es f1 f2=>⟨ax (by simp),fun p np=>by
     have s4:=Same.new (.tup [V.ref l1,V.ref l2]) np;exact ks s' es p l1 l2 _ (s3.trans s4) n1 n20 ah (s4 _ _ f1) (s4 _ _ f2)⟩
   cases D' with
   | put v n =>
     simp only [De.wd];walk_at "rd";obtain ⟨vr,n0⟩:=ok;refine ixL hn2 rfl (ixL e12 (atG vr.1 (by omega)) (ixL hn2 rfl ⟨_,rfl,_,rfl,ixL hn2 rfl (wO e12 vr.1 (by rw [List.length_map];omega) ?_)⟩));rw [if_neg (sne (by decide +kernel)),if_neg (sne (by decide +kernel))];refine pair _ _ (s02.put n1 _) (if_pos ⟨vr,n0⟩) (by rw [ah,<- List.map_set]) (by rw [aq nl12.symm];exact e2)
   | want v n =>
     simp only [De.wd];walk_at "rd";obtain ⟨vr,n0⟩:=ok;rw [if_neg (sne (by decide +kernel))];refine ixL hn2 rfl (ixL hn2 rfl (wO e2 vr.1 (by rw [List.length_map];omega) ?_));rw [if_neg (sne (by decide +kernel))];refine pair _ _ (s02.put n20 _) (if_pos ⟨vr,n0⟩) (by rw [aq nl12];exact e12) (by rw [ah,<- List.map_set])
   | back ns=>exact ok.elim
   | step a b n =>
     simp only [De.wd];walk_at "rd";rw [if_neg (sne (by decide +kernel)),if_neg (sne (by decide +kernel))];have no:cm m rs s.1 (a,b,n)=false->∀ H',Same H H'->Q .non H':=fun cf H' s'=>kn (by show (if cm m rs s.1 (a,b,n)=true then _ else none)=none;rw [if_neg (by rw [cf];decide)]) H' s';refine ixL hn2 rfl (ixL hn2 rfl ⟨l,ps,rs,a,b,rfl,s02 _ _ hl,RoadsAt.same s02 ro,fun kk ek=>?_,fun z=>?_⟩)
     rotate_left
     . show ite (V.non=V.non) _ _;rw [if_pos rfl];exact no (Tp g z) H2 s02
     have ad:Adj rs a b:=AK.mp (by rw [ek];rfl);obtain ⟨_,ek',kr⟩:=E5 g ad;rw [ek] at ek';cases ek';obtain ⟨ar,br,nab⟩:=g.adj ad;have td:eW rs a b=kk:=(by unfold eW;rw [ek];rfl);have ci:=S5 (n:=n) (xs:=s.1) g ek;show ite (V.int kk=V.non) _ _;rw [if_neg (by intro z;cases z)];refine ixL hn2 rfl ⟨_,rfl,?_⟩;by_cases n1':n<1
     . rw [if_pos n1'];exact no (by rw [ci];exact decide_eq_false (by omega)) H2 s02
     rw [if_neg n1'];refine ixL hn2 rfl (ixL e12 (atG ar.1 (by omega)) (ixL hn2 rfl ⟨_,rfl,_,rfl,.inl ⟨by omega,by omega⟩,_,rfl,?_⟩));by_cases z:s.1.getD a.toNat 0<kk*n
     . rw [if_pos z];refine no ?_ H2 s02;rw [ci];refine decide_eq_false fun q=>?_;rw [Int.mul_comm] at q;omega
     . rw [if_neg z];have es:bhe m rs s (.step a b n)=some (gH rs s.1 (a,b,n),s.2):=if_pos (by
         rw [ci];exact decide_eq_true ⟨by omega,by rw [Int.mul_comm];omega⟩)
       refine ixL hn2 rfl (ixL e12 (atG ar.1 (by omega)) (ixL hn2 rfl ⟨_,rfl,_,rfl,.inl ⟨by omega,by omega⟩,_,rfl,ixL hn2 rfl (wO e12 ar.1 (by rw [List.length_map];omega) ?_)⟩));rw [<- List.map_set];obtain ⟨xs1,ex1⟩:∃ xs1,xs1=s.1.set a.toNat (s.1.getD a.toNat 0 - kk*n):=⟨_,rfl⟩;rw [<- ex1];have x1l:(xs1.length:Int)=m:=(by rw [ex1,List.length_set];exact xl);have s3:=s02.put n1 (.lst (xs1.map V.int));have e13:upd H2 l1 (.lst (xs1.map V.int)) l1=some (.lst (xs1.map V.int)):=ah;have e23:upd H2 l1 (.lst (xs1.map V.int)) l2=some (.lst (s.2.map V.int)):=(by rw [aq nl12.symm];exact e2);generalize upd H2 l1 (.lst (xs1.map V.int))=H3 at s3 e13 e23 ⊢;have hn3:=s3 _ _ hn;refine ixL hn3 rfl (ixL e13 (atG br.1 (by omega)) (ixL hn3 rfl ⟨_,rfl,_,rfl,ixL hn3 rfl (wO e13 br.1 (by rw [List.length_map];omega) ?_)⟩));refine pair _ _ (s3.put n1 _) es ?_ (by rw [aq nl12.symm];exact e23);rw [ah,<- List.map_set];show _=some (HO.lst ((gH rs s.1 (a,b,n)).map V.int));unfold gH;rw [td,ex1,Int.mul_comm kk n]
def zN (T:Txt K mg):Sp:=fun vs H Q _=>∃ (l:Addr) (c m:Int) (ps:List Addr) (rs:List Road),vs=[.int c,.int m,.ref l]/\H l=some (.lst (ps.map V.ref))/\RoadsAt H ps rs/\Good m rs /\
 ∀ q b H' (D:Dd),D.Ok m rs->H b=none->Same H H'->H' q=some (.tup [.str D.wd,.ref b])->H' b=some (.lst (D.ns.map V.int))->Q (.ref q) H'
abbrev bC:Stmt:=top 51
theorem dc:FnScope ["cell","many","roads","place","amount","one","other","there","back"] ["cell","many","roads"] (aa bC):=FnScope.of (by kernel_rfl)
theorem bA:NmL (aa bC) "cell":=.of (by kernel_rfl)
theorem AM:NmL (aa bC) "many":=.of (by kernel_rfl)
theorem jO:NmL (aa bC) "roads":=.of (by kernel_rfl)
theorem oH:NmL (aa bC) "place":=.of (by kernel_rfl)
theorem fg:NmL (aa bC) "amount":=.of (by kernel_rfl)
theorem iB:NmL (aa bC) "one":=.of (by kernel_rfl)
theorem fS:NmL (aa bC) "other":=.of (by kernel_rfl)
theorem y9:NmL (aa bC) "there":=.of (by kernel_rfl)
theorem Ai:NmL (aa bC) "back":=.of (by kernel_rfl)
theorem dW:NmG (aa bC) "len":=.of (by kernel_rfl)
theorem IE (T:Txt K mg) (hq:aV (CXe P w)) {f:Addr} {fd:FuncData} (D:Df K mg "_law_deed" bC ["cell","many","roads"] f fd):FnOk P w K mg base (CXe P w) 1 f fd ["cell","many","roads"] (zN T):=by
 refine D.F.okC dc (fun vs H Q E h=>?_) (fun cdv A outer s H vs Q E hr h=>?_)
 . obtain ⟨l,c,m,ps,rs,rfl,_⟩:=h
   rfl
 . obtain ⟨l,c,m,ps,rs,rfl,hl,ro,g,k⟩:=h;have m1:=g.m1;have m24:=g.m24;have mp:0<m:=by omega
   have em:∀ (x n:Int),0<n->0<=x % n/\x % n<n:=fun x n h=>⟨Int.emod_nonneg x (Int.ne_of_gt h),Int.emod_lt_of_pos x h⟩;refine ⟨_,(ak (aJ (i:=3) dc.nd rfl (Or.inl oH.l) (ao aO (ao aX (pvl 0 bA) ag) (pvl 1 AM))) (ak (aJ (i:=4) dc.nd rfl (Or.inl fg.l) (ao aO (ao aX (pvl 0 bA) ag) ag)) (ak (aR (ay bM (ao aO (ao aX (pvl 0 bA) ag) ag) ag (aD _)) (al (aJ (i:=4) dc.nd rfl (Or.inl fg.l) (ao aO (ao aX (pvl 0 bA) ag) (ao Bd ag ag)))) aB) (ak (aR (ay bM (ao aO (ao aX (pvl 0 bA) ag) ag) ag (aD _)) (al (aJ (i:=4) dc.nd rfl (Or.inl fg.l) (ao gS (ao gS (ao Bd ag ag) ag) (ao aO (ao aX (pvl 0 bA) ag) ag)))) aB) (ak (aR (PW.pt (lF (ay bM (ao aO (pvl 0 bA) ag) ag (aD _)) (jw (ay LP (ba bL dW.g T.len eN (af (pvl 2 jO) aj) (hn:=dW.n) (hdb:=dW.d)) ag (aD _))))) (ak (iL (au av (pvl 2 jO) (ao aO (ao aX (pvl 0 bA) ag) (ba bL dW.g T.len eN (af (pvl 2 jO) aj) (hn:=dW.n) (hdb:=dW.d))) (fun _ _=>rfl)) (jW (n:=4) rfl (aZ (aP (i:=5) dc.nd rfl (Or.inl iB.l)) (aZ (aP (i:=6) dc.nd rfl (Or.inl fS.l)) (aZ (aP (i:=7) dc.nd rfl (Or.inl y9.l)) (aZ (aP (i:=8) dc.nd rfl (Or.inl Ai.l)) hG)))))) (ak (aR (ay bM (ao aO (ao aX (pvl 0 bA) ag) ag) ag (aD _)) (al (SE (i:=5) (j:=6) rfl dc.nd rfl rfl (by decide) iB.l fS.l (af (pvl 6 fS) (af (pvl 5 iB) aj)) (by kernel_rfl))) aB) (al (aF (dM (af aN (af (bE (af (pvl 5 iB) (af (pvl 6 fS) (af (ao cA ag (ao aO (ao aX (pvl 0 bA) ag) ag)) aj)))) aj))))))) aB) (al (aF (dM (af (au av (bE (af aN (af aN (af aN (af aN (af aN aj)))))) (ao aO (pvl 0 bA) ag) (fun _ _=>rfl)) (af (bE (af (pvl 3 oH) (af (pvl 4 fg) aj))) aj)))))))))),?_⟩;rw [show L2.start ["cell","many","roads","place","amount","one","other","there","back"] [V.int c,V.int m,V.ref l]=[some (V.int c),some (V.int m),some (V.ref l),none,none,none,none,none,none] from rfl];refine cs fun N1 h1=>?_;walk_at "rd";refine ⟨⟨by decide,by decide⟩,mp,h1 _ _ (cs fun N2 h2=>?_)⟩;have vr:=em (c / 5) m mp;generalize c / 5 % m=v at vr ⊢;walk_at "rd";refine ⟨⟨by decide,by decide⟩,by decide,h2 _ _ (cs fun N3 h3=>?_)⟩;have n0:=(em (c / 120) 13 (by decide)).1;generalize c / 120 % 13=n at n0 ⊢;have k3:∀ n,0<=n->N3 [some (V.int c),some (V.int m),some (V.ref l),some (V.int v),some (V.int n),none,none,none,none] H:=fun n n0=>by
     refine h3 _ _ (cs fun N4 h4=>?_);have k4:∀ n,0<=n->N4 [some (V.int c),some (V.int m),some (V.ref l),some (V.int v),some (V.int n),none,none,none,none] H:=fun n n0=>by
       refine h4 _ _ (cs fun N5 h5=>?_);have last:N5 [some (V.int c),some (V.int m),some (V.ref l),some (V.int v),some (V.int n),none,none,none,none] H:=by
         refine h5 _ _ ?_;walk_at "rd";refine ⟨ax (by simp),fun q1 n1=>⟨by decide,?_⟩⟩;have s1:=Same.new (.lst [V.str "put",V.str "put",V.str "want",V.str "put",V.str "back"]) n1;obtain ⟨D,hD,ok,en⟩:∃ D:Dd,atI [V.str "put",V.str "put",V.str "want",V.str "put",V.str "back"] (c % 5)=some (.str D.wd)/\D.Ok m rs/\D.ns=[v,n]:=by
           have h5:=em c 5 (by decide);rcases (show c % 5=0\/c % 5=1\/c % 5=2\/c % 5=3\/c % 5=4 by omega) with z|z|z|z|z <;> rw [z]
           . exact ⟨.put v n,rfl,⟨vr,n0⟩,rfl⟩
           . exact ⟨.put v n,rfl,⟨vr,n0⟩,rfl⟩
           . exact ⟨.want v n,rfl,⟨vr,n0⟩,rfl⟩
           . exact ⟨.put v n,rfl,⟨vr,n0⟩,rfl⟩
           . exact ⟨.back v n,rfl,trivial,rfl⟩
         refine ixL ah hD ⟨ax (by simp),fun q2 n2=>⟨ax (by simp),fun q3 n3=>?_⟩⟩;have s2:=s1.trans (Same.new (.lst [V.int v,V.int n]) n2);have s3:=Same.new (.tup [V.str D.wd,V.ref q2]) n3;refine k q3 q2 _ D ok (s1.free n2) (s2.trans s3) ah ?_;rw [en];exact s3 _ _ ah
       walk_at "rd";refine ⟨by decide,?_⟩;by_cases z3:c % 5=3
       . rw [if_pos z3];refine ⟨_,.inl (SqL.of hl),?_⟩;rw [List.length_map];by_cases zl:(0:Int)<ps.length
         . rw [if_pos zl];refine ⟨⟨by decide,by decide⟩,_,.inl (SqL.of hl),?_⟩;rw [List.length_map];have jr:=em (c / 5) (ps.length:Int) zl;refine ⟨zl,?_⟩;generalize c / 5 % (ps.length:Int)=j at jr ⊢;obtain ⟨p,hp⟩:∃ p,ps[j.toNat]?=some p:=⟨_,List.getElem?_eq_getElem (by omega)⟩;obtain ⟨p',x,e1,hp',hx,ex⟩:=ro.get (i:=j.toNat) (x:=V.ref p) (by rw [List.getElem?_map,hp];rfl);injection e1 with e1
           subst e1;have xm:=List.mem_of_getElem? hx;refine ixL (v:=V.ref p) hl (yZ jr.1 (by rw [List.getElem?_map,hp];rfl)) ⟨p,rfl,_,SqT.of ex,rfl,_,_,rfl,_,_,rfl,_,_,rfl,_,_,rfl,rfl,⟨by decide,by decide⟩,by decide,?_⟩;have n3:=em (c / 240) 3 (by decide);have fin:∀ a b,Adj rs a b->∀ p,H p=none->[V.str "step",V.ref p].length<=sizeLine/\∀ p_1,upd H p (.lst [V.int a,V.int b,V.int (1+c / 240 % 3)]) p_1=none->Q (V.ref p_1) (upd (upd H p (.lst [V.int a,V.int b,V.int (1+c / 240 % 3)])) p_1 (.tup [V.str "step",V.ref p])):=fun a b ad p np=>⟨ax (by simp),fun p1 np1=>by
             have s1:=Same.new (.lst [V.int a,V.int b,V.int (1+c / 240 % 3)]) np;have s2:=Same.new (.tup [V.str "step",V.ref p]) np1;exact k p1 p _ (.step a b (1+c / 240 % 3)) ⟨ad,by omega,by omega⟩ np (s1.trans s2) ah (s2 _ _ ah)⟩
           by_cases z2:c / 120 % 2=1
           . rw [if_pos z2];exact ⟨_,_,⟨rfl,rfl⟩,⟨by decide,by decide⟩,by decide,ax (by simp),fin _ _ ⟨x,xm,.inr ⟨rfl,rfl⟩⟩⟩
           . rw [if_neg z2];exact ⟨⟨by decide,by decide⟩,by decide,ax (by simp),fin _ _ ⟨x,xm,.inl ⟨rfl,rfl⟩⟩⟩
         . rw [if_neg zl];exact last
       . rw [if_neg z3];exact last
     walk_at "rd";refine ⟨⟨by decide,by decide⟩,by decide,?_⟩;split
     . have h3:=em (c / 10920) 3 (by decide);have:(2:Int)<=10^Int.toNat 60 - 1:=(by decide);exact ⟨⟨by decide,by decide,by decide⟩,⟨by decide,by decide⟩,by decide,k4 _ (by omega)⟩
     . exact k4 n n0
   walk_at "rd";refine ⟨⟨by decide,by decide⟩,by decide,?_⟩;split
   . exact ⟨⟨by decide,by decide⟩,⟨by decide,by decide,by decide⟩,p60,k3 _ (em _ _ p60).1⟩
   . exact k3 n n0
def B4 (T:Txt K mg):Sp:=fun vs H Q _=>∃ (l q ln:Addr) (ps:List Addr) (rs:List Road) (m past:Int) (s:List Int × List Int) (D:De),vs=[.int m,.ref l,.ref q,.int past,.str D.wd,.ref ln]/\H l=some (.lst (ps.map V.ref))/\RoadsAt H ps rs/\Good m rs/\StL H q s/\H ln=some (.lst (D.ns.map V.int))/\(s.1.length:Int)=m/\(s.2.length:Int)=m/\∀ H',Same H H'->Q (.str (d3 m rs s past D)) H'
abbrev ck:Stmt:=top 56
theorem J9:FnScope ["many","roads","state","past","deed","numbers"] ["many","roads","state","past","deed","numbers"] (aa ck):=FnScope.of (by kernel_rfl)
theorem BO:NmL (aa ck) "many":=.of (by kernel_rfl)
theorem AI:NmL (aa ck) "roads":=.of (by kernel_rfl)
theorem pj:NmL (aa ck) "state":=.of (by kernel_rfl)
theorem AY:NmL (aa ck) "past":=.of (by kernel_rfl)
theorem iA:NmL (aa ck) "deed":=.of (by kernel_rfl)
theorem fv:NmL (aa ck) "numbers":=.of (by kernel_rfl)
theorem eG:NmG (aa ck) "int":=.of (by kernel_rfl)
theorem kT:NmG (aa ck) "_law_behind":=.of (by kernel_rfl)
theorem Lw (T:Txt K mg) (hq:aV (CXe P w)) {f:Addr} {fd:FuncData} (D:Df K mg "_law_due" ck ["many","roads","state","past","deed","numbers"] f fd) {cU:Addr} {gX:FuncData} (cB:Df K mg "_law_behind" aY ["roads","held","wish","deed","numbers"] cU gX) (G_law_behind:FnOk P w K mg base (CXe P w) 2 cU gX ["roads","held","wish","deed","numbers"] (ow T)):FnOk P w K mg base (CXe P w) 3 f fd ["many","roads","state","past","deed","numbers"] (B4 T):=by
 refine D.F.okC J9 (fun vs H Q E h=>?_) (fun cdv A outer s H vs Q E hr h=>?_)
 . obtain ⟨l,q,ln,ps,rs,m,past,s,D,rfl,_⟩:=h
   rfl
 . obtain ⟨l,q,ln,ps,rs,m,past,s,D',rfl,hl,ro,g,S,hn,xl,yl,k⟩:=h;obtain ⟨a,b,hq',ha,hb⟩:=S;have hu:=RV hr;refine ⟨_,(ak (aR (ay bM (pvl 4 iA) aN (aD _)) (al (aF (au av (bE (af aN (af aN aj))) (cQ DI eG.g T.int FU (af (o9 LP (pvl 3 AY) ag (aD _)) aj) (hn:=eG.n) (hdb:=eG.d)) (fun _ _=>rfl)))) aB) (ak (aR (ay bM (pvl 4 iA) aN (aD _)) (al (aF (au av (bE (af aN (af aN aj))) (cQ DI eG.g T.int FU (af (TX (NF (aE G_law_behind (hr.mono (by decide)) kT.g cB.m cB.F.kp cB.b .nil (bH hq) (af (pvl 1 AI) (af (au bo (pvl 2 pj) ag (fun _ _=>rfl)) (af (au bo (pvl 2 pj) ag (fun _ _=>rfl)) (af (pvl 4 iA) (af (pvl 5 fv) aj))))) (hdb:=kT.d)))) aj) (hn:=eG.n) (hdb:=eG.d)) (fun _ _=>rfl)))) aB) (ak (aR (PW.pt (oX (ay oW (au av (pvl 5 fv) ag (fun _ _=>rfl)) ag (aD _)) (ni (ay EI (au av (pvl 5 fv) ag (fun _ _=>rfl)) (pvl 0 BO) (aD _))))) (al (aF aN)) aB) (ak (aR (ay oW (au av (pvl 5 fv) ag (fun _ _=>rfl)) ag (aD _)) (al (aF (Se hu (Jc (zZ aN aN (zZ aN aN IZ)) rfl rfl (List.cons_ne_nil _ _) (by decide)) (pvl 4 iA) (fun _ _=>rfl)))) aB) (al (aF aN)))))),?_⟩;rw [show L2.start ["many","roads","state","past","deed","numbers"] [V.int m,V.ref l,V.ref q,V.int past,V.str D'.wd,V.ref ln]=[some (V.int m),some (V.ref l),some (V.ref q),some (V.int past),some (V.str D'.wd),some (V.ref ln)] from rfl];cases D' with
   | put v n =>
     simp only [De.wd];walk_at "rd";rw [if_neg (sne (by decide +kernel)),if_neg (sne (by decide +kernel))];refine ixL hn rfl ⟨v,rfl,?_⟩;by_cases v0:v<0
     . rw [if_pos v0];have e:d3 m rs s past (.put v n)="place":=if_pos (fun z=>absurd z.1 (by omega));rw [e] at k;exact k H (Same.refl _)
     . rw [if_neg v0];refine ixL hn rfl ⟨v,rfl,?_⟩;by_cases v1:m<=v
       . rw [if_pos v1];have e:d3 m rs s past (.put v n)="place":=if_pos (fun z=>absurd z.2 (by omega));rw [e] at k;exact k H (Same.refl _)
       . rw [if_neg v1];have e:d3 m rs s past (.put v n)=(if n<0 then ("laying":Str) else ("fine":Str)):=if_neg (fun z=>z ⟨by omega,by omega⟩);rw [e] at k;refine ixL hn rfl ⟨n,rfl,?_⟩;by_cases n0:n<0
         . rw [if_pos n0] at k ⊢;intro p np;refine ⟨ah,[(Sum.inr "put",V.str "laying"),(Sum.inr "want",V.str "wish")],rfl,by decide,V.str "laying",?_,?_⟩
           . have hg:=DGet.k (k:=Sum.inr "put") (ah (H:=upd H p (.dK [])) (a:=p) (o:=.dK (nG [] [(Sum.inr "put",V.str "laying"),(Sum.inr "want",V.str "wish")])));exact hg
           . rw [hJ];exact k _ (Same.new _ np)
         . rw [if_neg n0] at k ⊢;exact k H (Same.refl _)
   | want v n =>
     simp only [De.wd];walk_at "rd";rw [if_neg (sne (by decide +kernel)),if_neg (sne (by decide +kernel))];refine ixL hn rfl ⟨v,rfl,?_⟩;by_cases v0:v<0
     . rw [if_pos v0];have e:d3 m rs s past (.want v n)="place":=if_pos (fun z=>absurd z.1 (by omega));rw [e] at k;exact k H (Same.refl _)
     . rw [if_neg v0];refine ixL hn rfl ⟨v,rfl,?_⟩;by_cases v1:m<=v
       . rw [if_pos v1];have e:d3 m rs s past (.want v n)="place":=if_pos (fun z=>absurd z.2 (by omega));rw [e] at k;exact k H (Same.refl _)
       . rw [if_neg v1];have e:d3 m rs s past (.want v n)=(if n<0 then ("wish":Str) else ("fine":Str)):=if_neg (fun z=>z ⟨by omega,by omega⟩);rw [e] at k;refine ixL hn rfl ⟨n,rfl,?_⟩;by_cases n0:n<0
         . rw [if_pos n0] at k ⊢;intro p np;refine ⟨ah,[(Sum.inr "put",V.str "laying"),(Sum.inr "want",V.str "wish")],rfl,by decide,V.str "wish",?_,?_⟩
           . have hg:=DGet.k (k:=Sum.inr "want") (ah (H:=upd H p (.dK [])) (a:=p) (o:=.dK (nG [] [(Sum.inr "put",V.str "laying"),(Sum.inr "want",V.str "wish")])));exact hg
           . rw [hJ];exact k _ (Same.new _ np)
         . rw [if_neg n0] at k ⊢;exact k H (Same.refl _)
   | step a' b' n =>
     simp only [De.wd];walk_at "rd";rw [if_neg (sne (by decide +kernel))];refine ⟨ax (by simp),fun p np=>⟨q,_,0,_,rfl,rfl,SqT.of (Same.new _ np _ _ hq'),rfl,q,_,1,_,rfl,rfl,SqT.of (Same.new _ np _ _ hq'),rfl,?_⟩⟩;have s1:=Same.new (.lst [V.str "fine",V.str "step"]) np;have e1:upd H p (.lst [V.str "fine",V.str "step"]) p=some (.lst [V.str "fine",V.str "step"]):=ah;generalize upd H p (.lst [V.str "fine",V.str "step"])=H1 at s1 e1 ⊢;refine ⟨l,a,b,ln,ps,rs,m,s,.step a' b' n,rfl,s1 _ _ hl,RoadsAt.same s1 ro,g,s1 _ _ ha,s1 _ _ hb,s1 _ _ hn,xl,yl,trivial,fun z H2 s2=>?_,fun s' z q2 a2 b2 H2 s2 _ _ _ _ _=>?_⟩
     . refine .inr ?_;have cf:¬ cm m rs s.1 (a',b',n)=true:=fun c=>by
         rw [show bhe m rs s (.step a' b' n)=some (gH rs s.1 (a',b',n),s.2) from if_pos c] at z;cases z
       have e:d3 m rs s past (.step a' b' n)="step":=if_neg cf;rw [e] at k;exact ixL (s2 _ _ e1) rfl (k H2 (s1.trans s2))
     . refine .inr ?_;have cf:cm m rs s.1 (a',b',n)=true:=Classical.byContradiction fun c=>by
         rw [show bhe m rs s (.step a' b' n)=none from if_neg c] at z;cases z
       have e:d3 m rs s past (.step a' b' n)="fine":=if_pos cf;rw [e] at k;exact ixL (s2 _ _ e1) rfl (k H2 (s1.trans s2))
   | back ns =>
     simp only [De.wd];walk_at "rd";refine ⟨ax (by simp),fun p np=>.inr ?_⟩;have s1:=Same.new (.lst [V.str "deed",V.str "fine"]) np;by_cases z:0<past
     . have e:d3 m rs s past (.back ns)="fine":=if_pos z;rw [e] at k;rw [if_pos z];exact ixL ah rfl (k _ s1)
     . have e:d3 m rs s past (.back ns)="deed":=if_neg z;rw [e] at k;rw [if_neg z];exact ixL ah rfl (k _ s1)
def Bl (T:Txt K mg):Sp:=fun vs H Q _=>∃ (l:Addr) (c m:Int) (ps:List Addr) (rs:List Road),vs=[.int c,.int m,.ref l]/\H l=some (.lst (ps.map V.ref))/\RoadsAt H ps rs/\Good m rs /\
 ∀ q b H' (D:De),H b=none->Same H H'->H' q=some (.tup [.str D.wd,.ref b])->H' b=some (.lst (D.ns.map V.int))->Q (.ref q) H'
abbrev bD:Stmt:=top 55
theorem ef:FnScope ["cell","many","roads","far","place","amount","mode","one","other","there","back"] ["cell","many","roads"] (aa bD):=FnScope.of (by kernel_rfl)
theorem b6:NmL (aa bD) "cell":=.of (by kernel_rfl)
theorem iE:NmL (aa bD) "many":=.of (by kernel_rfl)
theorem kj:NmL (aa bD) "roads":=.of (by kernel_rfl)
theorem eI:NmL (aa bD) "far":=.of (by kernel_rfl)
theorem kC:NmL (aa bD) "place":=.of (by kernel_rfl)
theorem oz:NmL (aa bD) "amount":=.of (by kernel_rfl)
theorem fk:NmL (aa bD) "mode":=.of (by kernel_rfl)
theorem tI:NmL (aa bD) "one":=.of (by kernel_rfl)
theorem pF:NmL (aa bD) "other":=.of (by kernel_rfl)
theorem AJ:NmL (aa bD) "there":=.of (by kernel_rfl)
theorem BC:NmL (aa bD) "back":=.of (by kernel_rfl)
theorem eK:NmG (aa bD) "len":=.of (by kernel_rfl)
theorem LZ (T:Txt K mg) (hq:aV (CXe P w)) {f:Addr} {fd:FuncData} (D:Df K mg "_law_odd" bD ["cell","many","roads"] f fd):FnOk P w K mg base (CXe P w) 1 f fd ["cell","many","roads"] (Bl T):=by
 refine D.F.okC ef (fun vs H Q E h=>?_) (fun cdv A outer s H vs Q E hr h=>?_)
 . obtain ⟨l,c,m,ps,rs,rfl,_⟩:=h
   rfl
 . obtain ⟨l,c,m,ps,rs,rfl,hl,ro,g,k⟩:=h;have m1:=g.m1;have m24:=g.m24;have mp:0<m:=by omega
   have em:∀ (x n:Int),0<n->0<=x % n/\x % n<n:=fun x n h=>⟨Int.emod_nonneg x (Int.ne_of_gt h),Int.emod_lt_of_pos x h⟩;refine ⟨_,(ak (aJ (i:=3) ef.nd rfl (Or.inl eI.l) (ao aO (ao aX (pvl 0 b6) ag) (ao Bd ag ag))) (ak (aJ (i:=4) ef.nd rfl (Or.inl kC.l) (au av (bE (af (ao aO (ao aX (pvl 0 b6) ag) (pvl 1 iE)) (af (pvl 1 iE) (af (fX d6 ag) (af (ao cA (pvl 1 iE) (pvl 3 eI)) (af (ao gS (fX d6 ag) (pvl 3 eI)) aj)))))) (ao aO (ao aX (pvl 0 b6) ag) ag) (fun _ _=>rfl))) (ak (aJ (i:=5) ef.nd rfl (Or.inl oz.l) (au av (bE (af (ao aO (ao aX (pvl 0 b6) ag) ag) (af (fX d6 ag) (af (ao gS (fX d6 ag) (pvl 3 eI)) aj)))) (ao aO (ao aX (pvl 0 b6) ag) ag) (fun _ _=>rfl))) (ak (aJ (i:=6) ef.nd rfl (Or.inl fk.l) (ao aO (pvl 0 b6) ag)) (ak (aR (ay oW (pvl 6 fk) ag (aD _)) (al (aF (dM (af (au av (bE (af aN (af aN (af aN aj)))) (pvl 6 fk) (fun _ _=>rfl)) (af (bE (af (pvl 4 kC) (af (pvl 5 oz) aj))) aj))))) aB) (ak (aR (PW.pt (lF (ay oW (pvl 6 fk) ag (aD _)) (jw (ay LP (ba bL eK.g T.len eN (af (pvl 2 kj) aj) (hn:=eK.n) (hdb:=eK.d)) ag (aD _))))) (ak (iL (au av (pvl 2 kj) (ao aO (ao aX (pvl 0 b6) ag) (ba bL eK.g T.len eN (af (pvl 2 kj) aj) (hn:=eK.n) (hdb:=eK.d))) (fun _ _=>rfl)) (jW (n:=4) rfl (aZ (aP (i:=7) ef.nd rfl (Or.inl tI.l)) (aZ (aP (i:=8) ef.nd rfl (Or.inl pF.l)) (aZ (aP (i:=9) ef.nd rfl (Or.inl AJ.l)) (aZ (aP (i:=10) ef.nd rfl (Or.inl BC.l)) hG)))))) (al (aF (dM (af aN (af (bE (af (pvl 7 tI) (af (pvl 8 pF) (af (au av (bE (af ag (af (fX d6 ag) (af (ao gS (fX d6 ag) (pvl 3 eI)) (af (ao cA ag (pvl 3 eI)) aj))))) (ao aO (ao aX (pvl 0 b6) ag) ag) (fun _ _=>rfl)) aj)))) aj)))))) aB) (ak (aR (ay oW (pvl 6 fk) ag (aD _)) (al (aF (dM (af aN (af (bE (af (pvl 4 kC) (af (ao gS (ao aO (ao aX (pvl 0 b6) ag) (ao cA (pvl 1 iE) ag)) ag) (af (ao cA ag (ao aO (ao aX (pvl 0 b6) ag) ag)) aj)))) aj))))) aB) (al (aF (dM (af aN (af (bE aj) aj)))))))))))),?_⟩;rw [show L2.start ["cell","many","roads","far","place","amount","mode","one","other","there","back"] [V.int c,V.int m,V.ref l]=[some (V.int c),some (V.int m),some (V.ref l),none,none,none,none,none,none,none,none] from rfl];refine cs fun N1 h1=>?_;walk_at "rd";have p30:(0:Int)<10^Int.toNat 30:=Int.pow_pos (by decide);refine ⟨⟨by decide,by decide⟩,⟨by decide,by decide,by decide⟩,p30,h1 _ _ (cs fun N2 h2=>?_)⟩;generalize c / 40 % 10^Int.toNat 30=far;have at5:∀ (x1 x2 x3 x4 x5 i:Int),∃ p:Int,atI [V.int x1,V.int x2,V.int x3,V.int x4,V.int x5] (i % 5)=some (.int p):=fun x1 x2 x3 x4 x5 i=>by
     have:=em i 5 (by decide);rcases (show i % 5=0\/i % 5=1\/i % 5=2\/i % 5=3\/i % 5=4 by omega) with z|z|z|z|z <;> rw [z] <;> exact ⟨_,rfl⟩
   have at3:∀ (x1 x2 x3 i:Int),∃ p:Int,atI [V.int x1,V.int x2,V.int x3] (i % 3)=some (.int p):=fun x1 x2 x3 i=>by
     have:=em i 3 (by decide);rcases (show i % 3=0\/i % 3=1\/i % 3=2 by omega) with z|z|z <;> rw [z] <;> exact ⟨_,rfl⟩
   have at4:∀ (x1 x2 x3 x4 i:Int),∃ p:Int,atI [V.int x1,V.int x2,V.int x3,V.int x4] (i % 4)=some (.int p):=fun x1 x2 x3 x4 i=>by
     have:=em i 4 (by decide);rcases (show i % 4=0\/i % 4=1\/i % 4=2\/i % 4=3 by omega) with z|z|z|z <;> rw [z] <;> exact ⟨_,rfl⟩
   walk_at "rd";refine ⟨⟨by decide,by decide⟩,mp,ax (by simp),fun q1 n1=>⟨⟨by decide,by decide⟩,by decide,?_⟩⟩;obtain ⟨p,hp⟩:=at5 (c / 40 % m) m (-1) (m+far) (-1 - far) (c / 8);refine ixL ah hp (h2 _ _ (cs fun N3 h3=>?_));have s1:=Same.new (.lst [V.int (c / 40 % m),V.int m,V.int (-1),V.int (m+far),V.int (-1 - far)]) n1;generalize upd H q1 (.lst [V.int (c / 40 % m),V.int m,V.int (-1),V.int (m+far),V.int (-1 - far)])=H1 at s1 ⊢;walk_at "rd";refine ⟨⟨by decide,by decide⟩,by decide,ax (by simp),fun q2 n2=>⟨⟨by decide,by decide⟩,by decide,?_⟩⟩;obtain ⟨am,ham⟩:=at3 (c / 40 % 13) (-1) (-1 - far) (c / 200);refine ixL ah ham (h3 _ _ (cs fun N4 h4=>?_));have s2:=s1.trans (Same.new (.lst [V.int (c / 40 % 13),V.int (-1),V.int (-1 - far)]) n2);generalize upd H1 q2 (.lst [V.int (c / 40 % 13),V.int (-1),V.int (-1 - far)])=H2 at s2 ⊢;walk_at "rd";refine ⟨by decide,h4 _ _ (cs fun N5 h5=>?_)⟩;have mo:=em c 8 (by decide);generalize c % 8=mo' at mo ⊢;have fin:∀ (H3:Hp) (D:De) (w:Str) (zs:List V),Same H H3->zs.length<=10->w=D.wd->zs=D.ns.map V.int->zs.length<=sizeLine/\∀ (p:Addr),H3 p=none->[V.str w,V.ref p].length<=sizeLine/\∀ (p_1:Addr),upd H3 p (.lst zs) p_1=none->Q (V.ref p_1) (upd (upd H3 p (.lst zs)) p_1 (.tup [V.str w,V.ref p])):=fun H3 D w zs s3 zl ew ez=>⟨ax (Nat.le_trans zl (by decide)),fun p np=>⟨ax (by simp),fun p1 np1=>by
     have s4:=Same.new (.lst zs) np;have s5:=Same.new (.tup [V.str w,V.ref p]) np1;refine k p1 p _ D (s3.free np) (s3.trans (s4.trans s5)) (by rw [ah,ew]) ?_;rw [<- ez];exact s5 _ _ ah⟩⟩
   walk_at "rd";by_cases z3:mo'<3
   . rw [if_pos z3];refine ⟨ax (by simp),fun p1 n1=>?_⟩;have s3:=s2.trans (Same.new (.lst [V.str "put",V.str "want",V.str "want"]) n1);rcases (show mo'=0\/mo'=1\/mo'=2 by omega) with z|z|z
     . exact ixL ah (by rw [z];rfl) (fin _ (.put p am) _ [V.int p,V.int am] s3 (by simp) rfl rfl)
     . exact ixL ah (by rw [z];rfl) (fin _ (.want p am) _ [V.int p,V.int am] s3 (by simp) rfl rfl)
     . exact ixL ah (by rw [z];rfl) (fin _ (.want p am) _ [V.int p,V.int am] s3 (by simp) rfl rfl)
   . rw [if_neg z3];refine h5 _ _ (cs fun N6 h6=>?_);have last:N6 [some (V.int c),some (V.int m),some (V.ref l),some (V.int far),some (V.int p),some (V.int am),some (V.int mo'),none,none,none,none] H2:=by
       refine h6 _ _ ?_;walk_at "rd";by_cases z7:mo'<7
       . rw [if_pos z7];exact ⟨⟨by decide,by decide⟩,by omega,⟨by decide,by decide⟩,by decide,fin _ (.step p (c / 600 % (m+2) - 1) (1+c / 5000 % 2)) _ _ s2 (by simp) rfl rfl⟩
       . rw [if_neg z7];exact fin _ (.back []) _ [] s2 (by simp) rfl rfl
     walk_at "rd";by_cases z5:mo'<5
     . rw [if_pos z5];have hl2:=s2 _ _ hl;have ro2:=RoadsAt.same s2 ro;refine ⟨_,.inl (SqL.of hl2),?_⟩;rw [List.length_map];by_cases zl:(0:Int)<ps.length
       . rw [if_pos zl];refine ⟨⟨by decide,by decide⟩,_,.inl (SqL.of hl2),?_⟩;rw [List.length_map];have jr:=em (c / 8) (ps.length:Int) zl;refine ⟨zl,?_⟩;generalize c / 8 % (ps.length:Int)=j at jr ⊢;obtain ⟨pp,hp⟩:∃ p,ps[j.toNat]?=some p:=⟨_,List.getElem?_eq_getElem (by omega)⟩;obtain ⟨p',x,e1,hp',hx,ex⟩:=ro2.get (i:=j.toNat) (x:=V.ref pp) (by rw [List.getElem?_map,hp];rfl);injection e1 with e1
         subst e1;refine ixL (v:=V.ref pp) hl2 (yZ jr.1 (by rw [List.getElem?_map,hp];rfl)) ⟨pp,rfl,_,SqT.of ex,rfl,_,_,rfl,_,_,rfl,_,_,rfl,_,_,rfl,rfl,ax (by simp),fun q5 n5=>⟨⟨by decide,by decide⟩,by decide,?_⟩⟩;obtain ⟨nn,hnn⟩:=at4 0 (-1) (-1 - far) (1+far) (c / 200);exact ixL ah hnn (fin _ (.step _ _ nn) _ _ (s2.trans (Same.new _ n5)) (by simp) rfl rfl)
       . rw [if_neg zl];exact last
     . rw [if_neg z5];exact last
def zr (T:Txt K mg):Sp:=fun vs H Q _=>∃ (a:Addr) (ns:List Int) (k:Int),vs=[.ref a,.int k]/\SqL K H a (ns.map V.int)/\0<=k/\∀ v,Q (.int v) H
abbrev di:Stmt:=top 44
theorem Ii:FnScope ["script","k"] ["script","k"] (aa di):=FnScope.of (by kernel_rfl)
theorem nJ:NmL (aa di) "script":=.of (by kernel_rfl)
theorem vR:NmL (aa di) "k":=.of (by kernel_rfl)
theorem lU:NmG (aa di) "len":=.of (by kernel_rfl)
theorem Iy (T:Txt K mg) (hq:aV (CXe P w)) {f:Addr} {fd:FuncData} (D:Df K mg "_law_cell" di ["script","k"] f fd):FnOk P w K mg base (CXe P w) 1 f fd ["script","k"] (zr T):=by
 refine D.F.okC Ii (fun vs H Q E h=>?_) (fun cdv A outer s H vs Q E hr h=>?_)
 . obtain ⟨a,ns,i,rfl,_⟩:=h
   rfl
 . obtain ⟨a,ns,i,rfl,ha,h0,k⟩:=h;refine ⟨_,(ak (aR (ay oW (pvl 1 vR) (ba bL lU.g T.len eN (af (pvl 0 nJ) aj) (hn:=lU.n) (hdb:=lU.d)) (aD _)) (al (aF (au av (pvl 0 nJ) (pvl 1 vR) (fun _ _=>rfl)))) aB) (al (aF ag))),?_⟩;rw [show L2.start ["script","k"] [V.ref a,V.int i]=[some (V.ref a),some (V.int i)] from rfl];walk_at "rd";refine ⟨_,.inl ha,?_⟩;rw [List.length_map];by_cases c:i<(ns.length:Int)
   . rw [if_pos c];have hi:i.toNat<ns.length:=(by omega);exact ixS ha (yZ h0 (v:=.int ns[i.toNat]) (by rw [List.getElem?_map,List.getElem?_eq_getElem hi];rfl)) (k _)
   . rw [if_neg c];exact k 0
def Bc (T:Txt K mg):Sp:=fun vs H Q _=>∃ (c o m b:Int),vs=[.int c,.int o,.int m,.int b]/\0<=m/\m<=1000/\0<b/\b<1000000000000000000/\∀ (l:Addr) (xs:List Int) (H':Hp),H l=none->Same H H'->H' l=some (.lst (xs.map V.int))->(xs.length:Int)=m->(∀ x∈xs,0<=x)->Q (.ref l) H'
abbrev b7:Stmt:=top 45
theorem gJ:FnScope ["cell","mode","many","base","found","rest","k","m"] ["cell","mode","many","base"] (aa b7):=FnScope.of (by kernel_rfl)
theorem qZ:NmL (aa b7) "cell":=.of (by kernel_rfl)
theorem BJ:NmL (aa b7) "mode":=.of (by kernel_rfl)
theorem BA:NmL (aa b7) "many":=.of (by kernel_rfl)
theorem qX:NmL (aa b7) "base":=.of (by kernel_rfl)
theorem gF:NmL (aa b7) "found":=.of (by kernel_rfl)
theorem iu:NmL (aa b7) "rest":=.of (by kernel_rfl)
theorem xf:NmL (aa b7) "k":=.of (by kernel_rfl)
theorem jh:NmL (aa b7) "m":=.of (by kernel_rfl)
theorem Ay:NmG (aa b7) "range":=.of (by kernel_rfl)
theorem Jz (T:Txt K mg) (hq:aV (CXe P w)) {f:Addr} {fd:FuncData} (D:Df K mg "_law_row" b7 ["cell","mode","many","base"] f fd):FnOk P w K mg base (CXe P w) 1 f fd ["cell","mode","many","base"] (Bc T):=by
 refine D.F.okC gJ (fun vs H Q E h=>?_) (fun cdv A outer s H vs Q E hr h=>?_)
 . obtain ⟨c,o,m,b,rfl,_⟩:=h
   rfl
 . obtain ⟨c,o,m,b,rfl,m0,m1,b0,b1,k⟩:=h;refine ⟨_,(ak (aJ (i:=4) gJ.nd rfl (Or.inl gF.l) (bE aj)) (ak (aJ (i:=5) gJ.nd rfl (Or.inl iu.l) (pvl 0 qZ)) (ak (je PassesOwn.never rfl (DE Ay.g T.range (af (pvl 2 BA) aj)) (aP (i:=6) gJ.nd rfl (Or.inl xf.l)) (al (aR (ay bM (pvl 1 BJ) ag (aD _)) (ak (bP (lN PySem.F.plainAttrs_list PySem.F.slot_list_append PySem.F.type_list_append ft (pvl 4 gF) (af (ao aO (pvl 5 iu) (pvl 3 qX)) aj))) (al (aJ (i:=5) gJ.nd rfl (Or.inl iu.l) (ao Q8 (pvl 5 iu) (pvl 3 qX))))) (ak (aJ (i:=7) gJ.nd rfl (Or.inl jh.l) (ao aO (ao nj (ao cA (ao cA (ao aO (pvl 0 qZ) ag) (ao nj ag (pvl 6 xf))) ag) ag) ag)) (ak (aJ (i:=7) gJ.nd rfl (Or.inl jh.l) (ao aO (ao nj (ao aO (ao nj (pvl 7 jh) (pvl 7 jh)) ag) ag) ag)) (al (bP (lN PySem.F.plainAttrs_list PySem.F.slot_list_append PySem.F.type_list_append ft (pvl 4 gF) (af (ao aX (pvl 7 jh) ag) aj))))))))) (al (aF (pvl 4 gF)))))),?_⟩;rw [show L2.start ["cell","mode","many","base","found","rest","k","m"] [V.int c,V.int o,V.int m,V.int b]=[some (V.int c),some (V.int o),some (V.int m),some (V.int b),none,none,none,none] from rfl];walk_at "rd";refine ⟨by decide,fun l hl=>?_⟩;refine ⟨by omega,by omega,?_⟩;refine ua (fun i σ H2=>Same H H2/\∃ (xs:List Int) (r:Int) (v6 v7:Option V),H2 l=some (.lst (xs.map V.int))/\xs.length=i/\(∀ x∈xs,0<=x)/\σ=[some (V.int c),some (V.int o),some (V.int m),some (V.int b),some (V.ref l),some (V.int r),v6,v7]) ⟨Same.new _ hl,[],c,_,_,ah,rfl,(fun x hx=>absurd hx List.not_mem_nil),rfl⟩ ?_ ?_
   . rintro i σ H2 N hN hi ⟨s2,xs,r,v6,v7,e2,xl,x0,rfl⟩;have ei:(0:Int)+(i:Int)=(i:Int):=(by omega);rw [ei];walk_at "rd";have zl:(xs.map V.int).length<sizeLine:=ir (by rw [List.length_map];omega);have snoc:∀ y:Int,0<=y->∀ x∈xs++[y],0<=x:=fun y hy x hx=>by
       rcases List.mem_append.mp hx with h|h
       . exact x0 x h
       . rw [List.mem_singleton.mp h];exact hy
     by_cases z:o=0
     . rw [if_pos z];refine ⟨tyL e2,b0,AG e2 zl ⟨⟨b0,by omega⟩,hN _ _ ⟨s2.put hl _,xs++[r % b],_,_,_,?_,by rw [List.length_append,xl];rfl,snoc _ (Int.emod_nonneg _ (by omega)),rfl⟩⟩⟩;rw [ah,List.map_append]
       rfl
     . rw [if_neg z];have h1:=Int.emod_nonneg c (show (998244353:Int)≠0 by decide);have h2:=Int.emod_lt_of_pos c (show (0:Int)<998244353 by decide);generalize c % 998244353=c1 at h1 h2 ⊢;have h3:=Int.emod_nonneg ((c1+7919*(i:Int)+11)*48271) (show (2147483647:Int)≠0 by decide);have h4:=Int.emod_lt_of_pos ((c1+7919*(i:Int)+11)*48271) (show (0:Int)<2147483647 by decide);refine ⟨by decide,.inl ⟨by decide,by decide⟩,.inr ⟨by decide,by decide⟩,by decide,?_⟩;generalize (c1+7919*(i:Int)+11)*48271 % 2147483647=c2 at h3 h4 ⊢;have h5:=Int.emod_nonneg (c2*c2) (show (2147483629:Int)≠0 by decide);refine ⟨.inl ⟨by omega,by omega⟩,by decide,.inr ⟨by decide,by decide⟩,by decide,?_⟩;have h6:=Int.emod_nonneg (c2*c2 % 2147483629*40692) (show (2147483399:Int)≠0 by decide);generalize c2*c2 % 2147483629*40692 % 2147483399=c3 at h6 ⊢;refine ⟨tyL e2,⟨by decide,by decide⟩,AG e2 zl (hN _ _ ⟨s2.put hl _,xs++[c3 / 7],_,_,_,?_,by rw [List.length_append,xl];rfl,snoc _ (Int.ediv_nonneg h6 (by decide)),rfl⟩)⟩;rw [ah,List.map_append]
       rfl
   . rintro σ H2 ⟨s2,xs,r,v6,v7,e2,xl,x0,rfl⟩;exact ⟨_,rfl,k l xs H2 hl s2 e2 (by omega) x0⟩
theorem zq {α β:Type} {R:α->β->Prop}:∀ (n:Nat) {l₁:List α} {l₂:List β},Paired R l₁ l₂->Paired R (l₁.take n) (l₂.take n)
 | 0,_,_,_=>by rw [List.take_zero,List.take_zero];exact .nil
 | _+1,_,_,.nil=>.nil
 | n+1,_,_,.cons x xs=>.cons x (zq n xs)
theorem zz {α β:Type} {R:α->β->Prop}:∀ (n:Nat) {l₁:List α} {l₂:List β},Paired R l₁ l₂->Paired R (l₁.drop n) (l₂.drop n)
 | 0,_,_,h=>h
 | _+1,_,_,.nil=>.nil
 | n+1,_,_,.cons x xs=>zz n xs
theorem Bp {α β:Type} {R:α->β->Prop} {k₁:List α} {k₂:List β} (h:Paired R k₁ k₂):∀ {l₁:List α} {l₂:List β},Paired R l₁ l₂->Paired R (l₁++k₁) (l₂++k₂)
 | _,_,.nil=>h
 | _,_,.cons x xs=>.cons x (Bp h xs)
theorem RoadsAt.ins {H:Hp} {ps:List Addr} {rs:List Road} {q:Addr} {r:Road} (n:Nat) (h:RoadsAt H ps rs) (e:H q=some (.tup (oO r))):RoadsAt H (ps.take n++q::ps.drop n) (rs.take n++r::rs.drop n) :=
 Bp (R:=fun p r=>H p=some (.tup (oO r))) (.cons e (zz n h)) (zq n h)
theorem F5 {H:Hp} {p:Addr} (o:HO):∀ b u,H b=some u->b≠p->upd H p o b=some u:=fun b u h n=>by rw [aq n];exact h
/-- places numbered from another one on -/
def ip (m s:Int):List Int:=(below m.toNat).map fun v=>(v+s) % m
theorem Dq {m s v:Int} (h0:0<=v) (h1:v<m):(ip m s).getD v.toNat 0=(v+s) % m:=by
 unfold ip;rw [List.getD,List.getElem?_map,NZ (by omega),Int.toNat_of_nonneg h0]
 rfl
theorem RJ {m s a b:Int} (a0:0<=a) (a1:a<m) (b0:0<=b) (b1:b<m) (e:(a+s) % m=(b+s) % m):a=b:=by
 have h1:=Int.emod_emod_of_dvd (a+s) (Int.dvd_refl m);have h2:(a - b) % m=0:=by
   have:=Int.emod_eq_emod_iff_emod_sub_eq_zero.mp e
   rwa [show a+s - (b+s)=a - b by omega] at this
 obtain ⟨k,hk⟩:=Int.dvd_of_emod_eq_zero h2;have m0:0<m:=by omega
 have:k=0:=by
   rcases Int.lt_trichotomy k 0 with z|z|z
   . have:m*k<=m*(-1):=Int.mul_le_mul_of_nonneg_left (by omega) (by omega);omega
   . exact z
   . have:m*1<=m*k:=Int.mul_le_mul_of_nonneg_left (by omega) (by omega);omega
 rw [this] at hk;omega
theorem QW {m s:Int} (m0:1<=m):Labels m.toNat (ip m s) where
 len:=by unfold ip;rw [List.length_map,lC]
 nd:=by
   unfold ip;refine List.pairwise_map.mpr ((jZ m.toNat).imp_of_mem fun {a b} ha hb h e=>h ?_);obtain ⟨a0,a1⟩:=eB.mp ha;obtain ⟨b0,b1⟩:=eB.mp hb;exact RJ a0 (by omega) b0 (by omega) e
 all:=fun v h0 h1=>by
   unfold ip;refine List.mem_map.mpr ⟨(v - s) % m,eB.mpr ⟨Int.emod_nonneg _ (by omega),?_⟩,?_⟩
   . have:=Int.emod_lt_of_pos (v - s) (show 0<m by omega);omega
   . rw [Int.emod_add_emod,show v - s+s=v by omega,Int.emod_eq_of_lt h0 (by omega)]
 rng:=fun v hv=>by
   unfold ip at hv;obtain ⟨u,_,rfl⟩:=List.mem_map.mp hv;have h1:=Int.emod_nonneg (u+s) (show m≠0 by omega);have h2:=Int.emod_lt_of_pos (u+s) (show 0<m by omega);omega
theorem SL {c:Prop} [Decidable c] {A B:Prop} {P:Int->Prop} (m1 m2:Int) (hB:P m2->B) (hA:P m1->A) (h:∀ m,(m=m1\/m=m2)->P m):if c then A else B:=by
 by_cases z:c
 . rw [if_pos z];exact hA (h _ (.inl rfl))
 . rw [if_neg z];exact hB (h _ (.inr rfl))
def yI (T:Txt K mg):Sp:=fun vs H Q _=>∃ (a:Addr) (ns:List Int),vs=[.ref a]/\SqL K H a (ns.map V.int) /\
 ∀ (t l:Addr) (m:Int) (ps:List Addr) (rs:List Road) (H':Hp),H t=none->H l=none->Same H H'->H' t=some (.tup [.int m,.ref l])->H' l=some (.lst (ps.map V.ref))->RoadsAt H' ps rs->Good m rs->Q (.ref t) H'
abbrev aK:Stmt:=top 47
theorem bB:FnScope ["script","mode","shape","tolls","many","roads","k","hang","one","other","there","back","road"] ["script"] (aa aK):=FnScope.of (by kernel_rfl)
theorem h8:NmL (aa aK) "script":=.of (by kernel_rfl)
theorem jK:NmL (aa aK) "mode":=.of (by kernel_rfl)
theorem bh:NmL (aa aK) "shape":=.of (by kernel_rfl)
theorem m8:NmL (aa aK) "tolls":=.of (by kernel_rfl)
theorem dn:NmL (aa aK) "many":=.of (by kernel_rfl)
theorem fh:NmL (aa aK) "roads":=.of (by kernel_rfl)
theorem cj:NmL (aa aK) "k":=.of (by kernel_rfl)
theorem oA:NmL (aa aK) "hang":=.of (by kernel_rfl)
theorem kz:NmL (aa aK) "one":=.of (by kernel_rfl)
theorem jd:NmL (aa aK) "other":=.of (by kernel_rfl)
theorem iJ:NmL (aa aK) "there":=.of (by kernel_rfl)
theorem jL:NmL (aa aK) "back":=.of (by kernel_rfl)
theorem jR:NmL (aa aK) "road":=.of (by kernel_rfl)
theorem cw:NmG (aa aK) "_law_cell":=.of (by kernel_rfl)
theorem ee:NmG (aa aK) "_law_row":=.of (by kernel_rfl)
theorem xc:NmG (aa aK) "range":=.of (by kernel_rfl)
theorem jU:NmG (aa aK) "_law_tolls":=.of (by kernel_rfl)
theorem kh:NmG (aa aK) "len":=.of (by kernel_rfl)
theorem Gp (T:Txt K mg) (hq:aV (CXe P w)) {f:Addr} {fd:FuncData} (D:Df K mg "_law_roads" aK ["script"] f fd) {gC:Addr} {zJ:FuncData} (cZ:Df K mg "_law_cell" di ["script","k"] gC zJ) (G_law_cell:FnOk P w K mg base (CXe P w) 1 gC zJ ["script","k"] (zr T)) {ja:Addr} {BQ:FuncData} (fj:Df K mg "_law_row" b7 ["cell","mode","many","base"] ja BQ) (G_law_row:FnOk P w K mg base (CXe P w) 1 ja BQ ["cell","mode","many","base"] (Bc T)) {fH:Addr} {wM:FuncData} (hU:Df K mg "_law_tolls" cS ["t"] fH wM) (G_law_tolls:FnOk P w K mg base (CXe P w) 1 fH wM ["t"] (wN T)):FnOk P w K mg base (CXe P w) 2 f fd ["script"] (yI T):=by
 refine D.F.okC bB (fun vs H Q E h=>?_) (fun cdv A outer s H vs Q E hr h=>?_)
 . obtain ⟨a,ns,rfl,_⟩:=h
   rfl
 . obtain ⟨a,ns,rfl,ha,k⟩:=h;refine ⟨_,(ak (aJ (i:=1) bB.nd rfl (Or.inl jK.l) (ao aO (aE G_law_cell (hr.mono (by decide)) cw.g cZ.m cZ.F.kp cZ.b .nil (bH hq) (af (pvl 0 h8) (af ag aj)) (hdb:=cw.d)) ag)) (ak (aJ (i:=2) bB.nd rfl (Or.inl bh.l) (aE G_law_row (hr.mono (by decide)) ee.g fj.m fj.F.kp fj.b .nil (bH hq) (af (ao aX (aE G_law_cell (hr.mono (by decide)) cw.g cZ.m cZ.F.kp cZ.b .nil (bH hq) (af (pvl 0 h8) (af ag aj)) (hdb:=cw.d)) ag) (af (pvl 1 jK) (af ag (af ag aj)))) (hdb:=ee.d))) (ak (aJ (i:=3) bB.nd rfl (Or.inl m8.l) (aE G_law_row (hr.mono (by decide)) ee.g fj.m fj.F.kp fj.b .nil (bH hq) (af (aE G_law_cell (hr.mono (by decide)) cw.g cZ.m cZ.F.kp cZ.b .nil (bH hq) (af (pvl 0 h8) (af ag aj)) (hdb:=cw.d)) (af (pvl 1 jK) (af ag (af (ao nj ag (ao Bd ag ag)) aj)))) (hdb:=ee.d))) (ak (aJ (i:=4) bB.nd rfl (Or.inl dn.l) (ao cA ag (ao aO (au av (pvl 2 bh) ag (fun _ _=>rfl)) ag))) (ak (aR (ay bM (ao aO (ao aX (au av (pvl 2 bh) ag (fun _ _=>rfl)) ag) ag) ag (aD _)) (al (aJ (i:=4) bB.nd rfl (Or.inl dn.l) (ao cA ag (ao aO (ao aX (au av (pvl 2 bh) ag (fun _ _=>rfl)) ag) ag)))) aB) (ak (aJ (i:=5) bB.nd rfl (Or.inl fh.l) (bE aj)) (ak (je PassesOwn.never rfl (ON xc.g T.range (af ag (af (pvl 4 dn) aj))) (aP (i:=6) bB.nd rfl (Or.inl cj.l)) (ak (aJ (i:=7) bB.nd rfl (Or.inl oA.l) (au av (bE (af (ao gS (pvl 6 cj) ag) (af ag (af (ao aO (au av (pvl 2 bh) (ao cA (pvl 6 cj) ag) (fun _ _=>rfl)) (pvl 6 cj)) (af (ao aO (au av (pvl 2 bh) (ao cA (pvl 6 cj) ag) (fun _ _=>rfl)) (pvl 6 cj)) aj))))) (ao aO (au av (pvl 2 bh) ag (fun _ _=>rfl)) ag) (fun _ _=>rfl))) (ak (aJ (i:=8) bB.nd rfl (Or.inl kz.l) (ao aO (ao cA (pvl 7 oA) (ao aX (au av (pvl 2 bh) ag (fun _ _=>rfl)) ag)) (pvl 4 dn))) (ak (aJ (i:=9) bB.nd rfl (Or.inl jd.l) (ao aO (ao cA (pvl 6 cj) (ao aX (au av (pvl 2 bh) ag (fun _ _=>rfl)) ag)) (pvl 4 dn))) (ak (iL (aE G_law_tolls (hr.mono (by decide)) jU.g hU.m hU.F.kp hU.b .nil (bH hq) (af (au av (pvl 3 m8) (pvl 6 cj) (fun _ _=>rfl)) aj) (hdb:=jU.d)) (jW (n:=2) rfl (aZ (aP (i:=10) bB.nd rfl (Or.inl iJ.l)) (aZ (aP (i:=11) bB.nd rfl (Or.inl jL.l)) hG)))) (ak (aJ (i:=12) bB.nd rfl (Or.inl jR.l) (dM (af (pvl 8 kz) (af (pvl 9 jd) (af (pvl 10 iJ) (af (pvl 11 jL) aj)))))) (ak (aR (ay bM (ao aO (ao aX (au av (pvl 2 bh) (ao cA (pvl 6 cj) ag) (fun _ _=>rfl)) ag) ag) ag (aD _)) (al (aJ (i:=12) bB.nd rfl (Or.inl jR.l) (dM (af (pvl 9 jd) (af (pvl 8 kz) (af (pvl 11 jL) (af (pvl 10 iJ) aj))))))) aB) (al (bP (lN PySem.F.plainAttrs_list PySem.F.slot_list_insert PySem.F.type_list_insert NX (pvl 5 fh) (af (ao aO (ao aX (au av (pvl 2 bh) (ao cA (pvl 6 cj) ag) (fun _ _=>rfl)) ag) (ao cA (ba bL kh.g T.len eN (af (pvl 5 fh) aj) (hn:=kh.n) (hdb:=kh.d)) ag)) (af (pvl 12 jR) aj)))))))))))) (al (aF (dM (af (pvl 4 dn) (af (pvl 5 fh) aj)))))))))))),?_⟩;rw [show L2.start ["script","mode","shape","tolls","many","roads","k","hang","one","other","there","back","road"] [V.ref a]=[some (V.ref a),none,none,none,none,none,none,none,none,none,none,none,none] from rfl];have em:∀ (x n:Int),0<n->0<=x % n/\x % n<n:=fun x n h=>⟨Int.emod_nonneg x (Int.ne_of_gt h),Int.emod_lt_of_pos x h⟩;have cd:∀ x n:Int,0<n->n<1073741824->Ak x n:=fun x n h1 h2=>⟨h1,h2⟩;refine cs fun N1 h1=>?_;walk_at "rd";refine ⟨a,ns,0,rfl,ha,by decide,fun c0=>⟨c0,rfl,by decide,h1 _ _ (cs fun N2 h2=>?_)⟩⟩;walk_at "rd";refine ⟨a,ns,0,rfl,ha,by decide,fun c1=>⟨c1,rfl,cd _ _ (by decide) (by decide),?_⟩⟩;refine ⟨_,_,26,9600,rfl,by decide,by decide,by decide,by decide,fun ls sh H1 n1 s1 e1 shl sh0=>h2 _ _ (cs fun N3 h3=>?_)⟩;walk_at "rd";refine ⟨a,ns,1,rfl,Same.seq s1 ha,by decide,fun c2=>⟨⟨by decide,by decide,by decide⟩,.inl ⟨by decide,by decide⟩,?_⟩⟩;refine ⟨_,_,24,_,rfl,by decide,by decide,by decide,by decide,fun lt ts H2 n2 s2 e2 tl t0=>h3 _ _ (cs fun N4 h4=>?_)⟩;walk_at "rd";have sh2:=s2 _ _ e1;have s02:=s1.trans s2;have g0:=atG (xs:=sh) (i:=0) (by decide) (by omega);have g1:=atG (xs:=sh) (i:=1) (by decide) (by omega);have p1:0<=sh.getD (1:Int).toNat 0:=CS sh0 _;generalize sh.getD (0:Int).toNat 0=w0 at g0 ⊢;generalize sh.getD (1:Int).toNat 0=w1 at g1 p1 ⊢;refine ixL sh2 g0 ⟨w0,rfl,by decide,h4 _ _ (cs fun N5 h5=>?_)⟩;walk_at "rd";refine ixL sh2 g0 ⟨w0,rfl,cd _ _ (by decide) (by decide),by decide,?_⟩;have mm:=em w0 7 (by decide);have mn:=em (w0 / 70) 17 (by decide);apply SL (8+w0 / 70 % 17) (1+w0 % 7)
   . generalize 1+w0 % 7=m;intro h;exact h
   . exact fun h=>ixL sh2 g0 ⟨w0,rfl,cd _ _ (by decide) (by decide),by decide,h⟩
   intro m hm;have m1:1<=m:=by omega
   have m24:m<=24:=by omega
   clear hm mm mn;refine h5 _ _ (cs fun N6 h6=>?_);walk_at "rd";refine ⟨by decide,fun lo nlo=>h6 _ _ (cs fun N7 h7=>?_)⟩;walk_at "rd";refine ⟨1,m,⟨rfl,rfl⟩,⟨by decide,by decide,by omega,by omega⟩,?_⟩;have nl0:H lo=none:=s02.free nlo;refine Kp (fun i σ H3=>∃ (ps:List Addr) (rs:List Road) (rows:List Row) (v6 v7 v8 v9 v10 v11 v12:Option V),σ=[some (V.ref a),some (V.int (c0 % 2)),some (V.ref ls),some (V.ref lt),some (V.int m),some (V.ref lo),v6,v7,v8,v9,v10,v11,v12]/\Same H2 H3/\H3 lo=some (.lst (ps.map V.ref))/\RoadsAt H3 ps rs/\Rows i rows/\Put (ip m (w1 / 4)) rows rs) ⟨[],[],[],_,_,_,_,_,_,_,rfl,Same.new _ nlo,ah,.nil,⟨rfl,fun i r h=>by cases h⟩,Put.nil _⟩ ?_ ?_
   . rintro i σ H3 N BB hBB hN hi ⟨ps,rs,rows,v6,v7,v8,v9,v10,v11,v12,rfl,s3,hl3,ro3,R,P⟩;refine hBB _ _ ?_;have k0:(1:Int)<=1+(i:Int):=(by omega);have k1:1+(i:Int)<m:=(by omega);generalize hk:(1:Int)+(i:Int)=kk at k0 k1 ⊢;have psl:ps.length=rs.length:=Paired.length ro3;have rl:=R.len;have pl:=P.len;have gk:=atG (xs:=sh) (i:=kk+1) (by omega) (by omega);have pk:0<=sh.getD (kk+1).toNat 0:=CS sh0 _;generalize sh.getD (kk+1).toNat 0=wk at gk pk;have gt:=atG (xs:=ts) (i:=kk) (by omega) (by omega);generalize ts.getD kk.toNat 0=tk at gt;have sh3:=s3 _ _ sh2;have ts3:=s3 _ _ e2;have hg:=em wk kk (by omega);refine cs fun M1 k1'=>?_;walk_at "rd";refine ixL sh3 gk ⟨wk,rfl,by omega,ixL sh3 gk ⟨wk,rfl,by omega,ax (by simp),fun q1 hq1=>?_⟩⟩;have s4:=Same.new (.lst [.int (kk - 1),.int 0,.int (wk % kk),.int (wk % kk)]) hq1;obtain ⟨un,hun,u0,u1⟩:∃ un:Int,atI [V.int (kk - 1),V.int 0,V.int (wk % kk),V.int (wk % kk)] (w1 % 4)=some (.int un)/\0<=un/\un<kk:=by
       rcases (show w1 % 4=0\/w1 % 4=1\/w1 % 4=2\/w1 % 4=3 by omega) with z|z|z|z
       . exact ⟨_,by rw [z];rfl,by omega,by omega⟩
       . exact ⟨_,by rw [z];rfl,by omega,by omega⟩
       . exact ⟨_,by rw [z];rfl,hg.1,hg.2⟩
       . exact ⟨_,by rw [z];rfl,hg.1,hg.2⟩
     refine ixL (s4 _ _ sh3) g1 ⟨w1,rfl,by decide,ixL ah hun (k1' _ _ (cs fun M2 k2'=>?_))⟩;generalize upd H3 q1 (.lst [.int (kk - 1),.int 0,.int (wk % kk),.int (wk % kk)])=H4 at s4 ⊢;have sh4:=s4 _ _ sh3;walk_at "rd";refine ixL sh4 g1 ⟨w1,rfl,cd _ _ (by decide) (by decide),by omega,k2' _ _ (cs fun M3 k3'=>?_)⟩;walk_at "rd";refine ixL sh4 g1 ⟨w1,rfl,cd _ _ (by decide) (by decide),by omega,k3' _ _ (cs fun M4 k4'=>?_)⟩;walk_at "rd";refine ixL (s4 _ _ ts3) gt ?_;refine ⟨tk,rfl,fun q2 th bk hq2 t0' t1 b0 b1=>?_⟩;have s5:=Same.new (.tup [.int th,.int bk]) hq2;refine ⟨q2,rfl,_,SqT.of ah,rfl,_,_,rfl,_,_,rfl,rfl,k4' _ _ (cs fun M5 k5'=>?_)⟩;walk_at "rd";refine ⟨ax (by simp),fun q3 hq3=>k5' _ _ (cs fun M6 k6'=>?_)⟩;walk_at "rd";have s6:=Same.new (.tup [.int ((un+w1 / 4) % m),.int ((kk+w1 / 4) % m),.int th,.int bk]) hq3;have s36:=s4.trans (s5.trans s6);have q36:upd (upd H4 q2 (.tup [.int th,.int bk])) q3 (.tup [.int ((un+w1 / 4) % m),.int ((kk+w1 / 4) % m),.int th,.int bk]) q3=some (.tup [.int ((un+w1 / 4) % m),.int ((kk+w1 / 4) % m),.int th,.int bk]):=ah;generalize upd (upd H4 q2 (.tup [.int th,.int bk])) q3 (.tup [.int ((un+w1 / 4) % m),.int ((kk+w1 / 4) % m),.int th,.int bk])=H6 at s36 q36 ⊢;have sh6:=s36 _ _ sh3;have lu:=Dq (s:=w1 / 4) u0 (show un<m by omega);have lk:=Dq (s:=w1 / 4) (show 0<=kk by omega) k1;have put:∀ (H7:Hp) (q:Addr) (row:Row) (v7 v8 v9 v10 v11 v12:Option V),Same H3 H7->row.k=kk->RowOk row->H7 q=some (.tup (oO (lX (ip m (w1 / 4)) row)))->tyV K "list" (V.ref lo) H7/\EL K (V.ref ls) (V.int (kk+1)) H7 fun x H1=>∃ i,x=V.int i/\Ak i 48/\∃ y,(SqL K H1 lo y\/SqT K H1 lo y)/\0<(y.length:Int)+1/\rInsert (V.ref lo) [V.int (i / 48 % ((y.length:Int)+1)),V.ref q] H1 fun _ H2=>N [some (V.ref a),some (V.int (c0 % 2)),some (V.ref ls),some (V.ref lt),some (V.int m),some (V.ref lo),some (V.int kk),v7,v8,v9,v10,v11,v12] H2:=by
       intro H7 q row v7 v8 v9 v10 v11 v12 s7 rk rok hq;have hl7:=s7 _ _ hl3;have sp:=em (wk / 48) ((ps.length:Int)+1) (by omega);refine ⟨tyL hl7,ixL (s7 _ _ sh3) gk ⟨wk,rfl,cd _ _ (by decide) (by decide),_,.inl (SqL.of hl7),by omega,?_⟩⟩;rw [List.length_map];refine UL hl7 sp.1 (by rw [List.length_map];omega) (ir (by rw [List.length_map];omega)) (hN _ _ ⟨ps.take (wk / 48 % ((ps.length:Int)+1)).toNat++q::ps.drop (wk / 48 % ((ps.length:Int)+1)).toNat,rs.take (wk / 48 % ((ps.length:Int)+1)).toNat++lX (ip m (w1 / 4)) row::rs.drop (wk / 48 % ((ps.length:Int)+1)).toNat,rows++[row],_,_,_,_,_,_,_,rfl,?_,?_,?_,?_,P.step row _⟩)
       . exact (s3.trans s7).put nlo _
       . rw [ah,List.map_append,List.map_cons,List.map_take,List.map_drop]
       . exact RoadsAt.ins _ (Paired.imp' (fun p r h=>F5 _ _ _ h (cY h hl7 (by intro z;cases z))) (RoadsAt.same s7 ro3)) (F5 _ _ _ hq (cY hq hl7 (by intro z;cases z)))
       . refine ⟨by rw [List.length_append,rl];rfl,fun j r hj=>?_⟩;by_cases hjl:j<rows.length
         . rw [List.getElem?_append_left hjl] at hj;exact R.ok j r hj
         . have hj2:j=rows.length:=by
             have:=(List.getElem?_eq_some_iff.mp hj).1;rw [List.length_append] at this;simp at this;omega
           rw [hj2,List.getElem?_append_right (Nat.le_refl _),Nat.sub_self] at hj;cases hj;exact ⟨by omega,rok⟩
     refine ixL sh6 gk ⟨wk,rfl,cd _ _ (by decide) (by decide),by decide,?_⟩;by_cases c:wk / 24 % 2=1
     . rw [if_pos c];refine ⟨ax (by simp),fun q4 hq4=>k6' _ _ ?_⟩;walk_at "rd";refine put _ q4 ⟨kk,un,bk,th,0,0⟩ _ _ _ _ _ _ (s36.trans (Same.new _ hq4)) rfl ⟨u0,u1,b0,b1,t0',t1,Int.le_refl _,by show (0:Int)<kk;omega⟩ ?_;rw [ah];unfold lX;rw [if_neg (show ¬ (0:Int)=1 by decide)];show _=some (HO.tup [V.int ((ip m (w1 / 4)).getD kk.toNat 0),V.int ((ip m (w1 / 4)).getD un.toNat 0),V.int bk,V.int th]);rw [lu,lk]
     . rw [if_neg c];refine k6' _ _ ?_;walk_at "rd";refine put _ q3 ⟨kk,un,th,bk,1,0⟩ _ _ _ _ _ _ s36 rfl ⟨u0,u1,t0',t1,b0,b1,Int.le_refl _,by show (0:Int)<kk;omega⟩ ?_;rw [q36];unfold lX;rw [if_pos rfl];show _=some (HO.tup [V.int ((ip m (w1 / 4)).getD un.toNat 0),V.int ((ip m (w1 / 4)).getD kk.toNat 0),V.int th,V.int bk]);rw [lu,lk]
   . rintro BB σ H3 hBB ⟨ps,rs,rows,v6,v7,v8,v9,v10,v11,v12,rfl,s3,hl3,ro3,R,P⟩;refine hBB _ _ ?_;have g:=Sm (n:=m.toNat) (by omega) (by omega) (QW m1) (by rw [show m.toNat - 1=(m - 1).toNat by omega];exact R) P;rw [Int.toNat_of_nonneg (by omega)] at g;walk_at "rd";refine h7 _ _ ?_;walk_at "rd";refine ⟨ax (by simp),fun t nt=>?_⟩;have s4:=Same.new (.tup [.int m,.ref lo]) nt;exact k t lo m ps rs _ ((s02.trans s3).free nt) nl0 (s02.trans (s3.trans s4)) ah (s4 _ _ hl3) (RoadsAt.same s4 ro3) g
def xg (T:Txt K mg):Sp:=fun vs H Q _=>∃ i:Int,vs=[.int i]/\Q (.bl true) H
abbrev cJ:Stmt:=top 49
theorem FG:FnScope ["found"] ["found"] (aa cJ):=FnScope.of (by kernel_rfl)
theorem nr:NmL (aa cJ) "found":=.of (by kernel_rfl)
theorem b8:NmG (aa cJ) "isinstance":=.of (by kernel_rfl)
theorem ki:NmG (aa cJ) "int":=.of (by kernel_rfl)
theorem jN:NmG (aa cJ) "bool":=.of (by kernel_rfl)
theorem F3 (T:Txt K mg) (hq:aV (CXe P w)) {f:Addr} {fd:FuncData} (D:Df K mg "_law_whole" cJ ["found"] f fd):FnOk P w K mg base (CXe P w) 1 f fd ["found"] (xg T):=by
 refine D.F.okC FG (fun vs H Q E h=>?_) (fun cdv A outer s H vs Q E hr h=>?_)
 . obtain ⟨i,rfl,_⟩:=h
   rfl
 . obtain ⟨i,rfl,k⟩:=h;refine ⟨_,(al (aF (xh (ba rE b8.g T.isinstance b9 (af (pvl 0 nr) (af (yV (v:=.ty "int") ki.g T.int FU rfl (hn:=ki.n) (hd:=ki.d)) aj)) (hn:=b8.n) (hdb:=b8.d)) (BG (Th (ba rE b8.g T.isinstance b9 (af (pvl 0 nr) (af (yV (v:=.ty "bool") jN.g T.bool SW rfl (hn:=jN.n) (hd:=jN.d)) aj)) (hn:=b8.n) (hdb:=b8.d))))))),?_⟩;rw [show L2.start ["found"] [V.int i]=[some (V.int i)] from rfl];walk_at "rd";refine ⟨_,_,_,true,rfl,.int i,fun cv h=>by cases h;rfl,_,rfl,?_⟩;rw [if_pos rfl];refine ⟨_,_,_,false,rfl,.int i,fun cv h=>by cases h;rfl,_,rfl,?_⟩;exact k
def zG (T:Txt K mg):Sp:=fun vs H Q _=>∃ (a b:Addr) (c:Bool) (xs:List Int),vs=[.ref a,.ref b]/\H a=some (.tup (xs.map V.int))/\SqX K c H b (xs.map V.int)/\xs.length<=1000/\∀ H',Same H H'->Q (.bl true) H'
abbrev bQ:Stmt:=top 50
theorem zm:FnScope ["found","due","k"] ["found","due"] (aa bQ):=FnScope.of (by kernel_rfl)
theorem fV:NmL (aa bQ) "found":=.of (by kernel_rfl)
theorem lq:NmL (aa bQ) "due":=.of (by kernel_rfl)
theorem kc:NmL (aa bQ) "k":=.of (by kernel_rfl)
theorem fG:NmG (aa bQ) "isinstance":=.of (by kernel_rfl)
theorem jM:NmG (aa bQ) "tuple":=.of (by kernel_rfl)
theorem cp:NmG (aa bQ) "len":=.of (by kernel_rfl)
theorem zc:NmG (aa bQ) "range":=.of (by kernel_rfl)
theorem kK:NmG (aa bQ) "_law_whole":=.of (by kernel_rfl)
theorem HS (T:Txt K mg) (hq:aV (CXe P w)) {f:Addr} {fd:FuncData} (D:Df K mg "_law_same" bQ ["found","due"] f fd) {fF:Addr} {wG:FuncData} (hX:Df K mg "_law_whole" cJ ["found"] fF wG) (G_law_whole:FnOk P w K mg base (CXe P w) 1 fF wG ["found"] (xg T)):FnOk P w K mg base (CXe P w) 2 f fd ["found","due"] (zG T):=by
 refine D.F.okC zm (fun vs H Q E h=>?_) (fun cdv A outer s H vs Q E hr h=>?_)
 . obtain ⟨a,b,c,xs,rfl,_⟩:=h
   rfl
 . obtain ⟨a,b,c,xs,rfl,ha,hb,hz,k⟩:=h;refine ⟨_,(ak (aR (PW.pt (oX (gn (gh (ba rE fG.g T.isinstance b9 (af (pvl 0 fV) (af (yV (v:=.ty "tuple") jM.g T.tuple jk rfl (hn:=jM.n) (hd:=jM.d)) aj)) (hn:=fG.n) (hdb:=fG.d)))) (ni (ay re (ba bL cp.g T.len eN (af (pvl 0 fV) aj) (hn:=cp.n) (hdb:=cp.d)) (ba bL cp.g T.len eN (af (pvl 1 lq) aj) (hn:=cp.n) (hdb:=cp.d)) (aD _))))) (al (aF lM)) aB) (ak (je PassesOwn.never rfl (DE zc.g T.range (af (ba bL cp.g T.len eN (af (pvl 1 lq) aj) (hn:=cp.n) (hdb:=cp.d)) aj)) (aP (i:=2) zm.nd rfl (Or.inl kc.l)) (al (aR (PW.pt (oX (gn (gh (aE G_law_whole (hr.mono (by decide)) kK.g hX.m hX.F.kp hX.b .nil (bH hq) (af (au bo (pvl 0 fV) (pvl 2 kc) (fun _ _=>rfl)) aj) (hdb:=kK.d)))) (ni (ay re (au bo (pvl 0 fV) (pvl 2 kc) (fun _ _=>rfl)) (au (TR c) (pvl 1 lq) (pvl 2 kc) (fun _ _=>rfl)) (aD _))))) (al (aF lM)) aB))) (al (aF lM)))),?_⟩;rw [show L2.start ["found","due","k"] [V.ref a,V.ref b]=[some (V.ref a),some (V.ref b),none] from rfl];walk_at "rd";have hb':SqL K H b (xs.map V.int)\/SqT K H b (xs.map V.int):=by
     cases c
     . exact .inr hb
     . exact .inl hb
   refine ⟨_,_,_,true,rfl,.tup ha,fun cv h=>by cases h;rfl,_,rfl,?_⟩;rw [if_neg (by decide)];refine ⟨_,.inr (SqT.of ha),_,hb',?_⟩;rw [if_neg (fun z=>z rfl)];refine ⟨_,hb',?_⟩;rw [List.length_map];refine ⟨by omega,by omega,?_⟩;refine ua (fun i σ H2=>H2=H/\∃ v,σ=[some (V.ref a),some (V.ref b),v]) ⟨rfl,_,rfl⟩ ?_ ?_
   . rintro i σ H2 N hN hi ⟨rfl,v,rfl⟩;rw [Int.zero_add];have gi:=atG (xs:=xs) (i:=(i:Int)) (by omega) (by omega);walk_at "rd";refine ixT ha gi ⟨_,rfl,_,rfl,?_⟩;rw [if_neg (by decide)];refine ixT ha gi (ixX hb gi ⟨rfl,?_⟩);rw [if_neg (fun z=>z rfl)];exact hN _ _ ⟨rfl,_,rfl⟩
   . rintro σ H2 ⟨rfl,v,rfl⟩;exact k _ (Same.refl _)
def yJ (T:Txt K mg):Sp:=fun vs H Q E=>∃ (o wb pl t:Addr) (m:Int) (ps:List Addr) (rs:List Road) (sts:List (List Int × List Int)) (s:List Int × List Int),vs=[.ref o]/\DeskAt T.Web T.Desk H o wb pl m t ps rs (sts++[s]) /\
 (sts≠[]->∀ H',DeskAt T.Web T.Desk H' o wb pl m t ps rs sts->Kpt pl H H'->Q .non H')/\(sts=[]->E (.ref T.NoDeed) none H)
abbrev dH:Stmt:=gm (top 42) 5
theorem G9:FnScope ["self"] ["self"] (aa dH):=FnScope.of (by kernel_rfl)
theorem oB:NmL (aa dH) "self":=.of (by kernel_rfl)
theorem l9:NmG (aa dH) "NoDeed":=.of (by kernel_rfl)
theorem Fp (T:Txt K mg) (hq:aV (CXe P w)) {f:Addr} {fd:FuncData} (F:Fun K "back" "Desk.back" dH f fd) {f_Desk_deeds:Addr} {dX:FuncData} (F_Desk_deeds:Fun K "deeds" "Desk.deeds" cV f_Desk_deeds dX) (b_Desk_deeds:Binds K dX ["self"] []) (gf:Meth K T.Desk "deeds" f_Desk_deeds) (G_Desk_deeds:FnOk P w K mg base (CXe P w) 1 f_Desk_deeds dX ["self"] (nW T)):FnOk P w K mg base (CXe P w) 3 f fd ["self"] (yJ T):=by
 refine F.okX G9 (fun vs H Q E h=>?_) (fun cdv A outer s H vs Q E hr h=>?_)
 . obtain ⟨o,wb,pl,t,m,ps,rs,sts,s,rfl,_⟩:=h
   rfl
 . obtain ⟨o,wb,pl,t,m,ps,rs,sts,s,rfl,O,k,e'⟩:=h;obtain ⟨dx,ob⟩:=O.ob;obtain ⟨qs,q,a,b,h1,h2,h3,h4,h5,h6⟩:=O.last;refine ⟨_,(ak (aR (ay bM (eT (pvl 0 oB) T.bp gf G_Desk_deeds (hr.mono (by decide)) b_Desk_deeds .nil bT) ag (aD _)) (al (pQ T.QS rfl tP l9.g T.GX (af aN aj) (hdb:=l9.d))) aB) (al (bP (FZ PySem.F.plainAttrs_list PySem.F.slot_list_pop PySem.F.type_list_pop Fa (dA  (pvl 0 oB) rfl))))),?_⟩;rw [show L2.start ["self"] [V.ref o]=[some (V.ref o)] from rfl];walk_at "rd";refine ⟨dx,_,ob,FM (by decide +kernel) (by decide +kernel),o,wb,pl,t,m,ps,rs,_,rfl,O,rfl,?_⟩;by_cases ne:sts=[]
   . rw [if_pos (by rw [ne];rfl)];exact ⟨by decide,e' ne⟩
   have sl:0<sts.length:=List.length_pos_iff.mpr ne;rw [if_neg (fun z=>by
     injection z with z
     rw [List.length_append,List.length_cons,List.length_nil] at z;omega)]
   refine ⟨T.Desk,dx,_,ob,T.bp,T.n_past,_,lK _ _,.inl ⟨rfl,_,SqL.of h1⟩,?_⟩;have kp:Kpt pl H (upd H pl (.lst (qs.map V.ref))):=Kpt.refl.put _;have fin:Q .non (upd H pl (.lst (qs.map V.ref))):=by
     refine k ne _ ⟨⟨dx,kp _ _ ob (cY ob h1 (by intro z;cases z))⟩,O.web.kptL kp h1,qs,ah,Paired.imp' (fun q s x=>StAt.kpt kp h1 x) h2⟩ kp
   refine ⟨pl,_,V.ref q,rfl,rfl,h1,?_,?_⟩
   . rw [List.map_append,List.length_append,List.map_cons,List.map_nil,List.length_cons,List.length_nil,show (qs.map V.ref).length+(0+1) - 1=(qs.map V.ref).length by omega,List.getElem?_append_right (Nat.le_refl _),Nat.sub_self]
     rfl
   . rw [List.map_append,List.map_cons,List.map_nil,List.dropLast_concat];exact fin
def lS (T:Txt K mg):Sp:=fun vs H Q _=>∃ (o wb pl t a b:Addr) (m:Int) (ps:List Addr) (rs:List Road) (sts:List (List Int × List Int)) (s:List Int × List Int),vs=[.ref o,.ref a,.ref b]/\DeskAt T.Web T.Desk H o wb pl m t ps rs sts/\H a=some (.tup (s.1.map V.int))/\H b=some (.tup (s.2.map V.int))/\sts.length<=1000 /\
 ∀ H',DeskAt T.Web T.Desk H' o wb pl m t ps rs (sts++[s])->Kpt pl H H'->Q .non H'
abbrev cD:Stmt:=gm (top 42) 4
theorem F8:FnScope ["self","laying","wish"] ["self","laying","wish"] (aa cD):=FnScope.of (by kernel_rfl)
theorem zg:NmL (aa cD) "self":=.of (by kernel_rfl)
theorem wD:NmL (aa cD) "laying":=.of (by kernel_rfl)
theorem zd:NmL (aa cD) "wish":=.of (by kernel_rfl)
theorem FP (T:Txt K mg) (hq:aV (CXe P w)) {f:Addr} {fd:FuncData} (F:Fun K "keep" "Desk.keep" cD f fd):FnOk P w K mg base (CXe P w) 1 f fd ["self","laying","wish"] (lS T):=by
 refine F.okC F8 (fun vs H Q E h=>?_) (fun cdv A outer s H vs Q E hr h=>?_)
 . obtain ⟨o,wb,pl,t,a,b,m,ps,rs,sts,s,rfl,_⟩:=h
   rfl
 . obtain ⟨o,wb,pl,t,a,b,m,ps,rs,sts,s,rfl,O,ha,hb,sl,k⟩:=h;obtain ⟨dx,ob⟩:=O.ob;obtain ⟨qs,h1,h2⟩:=O.pa;refine ⟨_,(al (bP (lN PySem.F.plainAttrs_list PySem.F.slot_list_append PySem.F.type_list_append ft (dA  (pvl 0 zg) rfl) (af (dM (af (pvl 1 wD) (af (pvl 2 zd) aj))) aj)))),?_⟩;rw [show L2.start ["self","laying","wish"] [V.ref o,V.ref a,V.ref b]=[some (V.ref o),some (V.ref a),some (V.ref b)] from rfl];walk_at "rd";refine ⟨T.Desk,dx,_,ob,T.bp,T.n_past,_,lK _ _,.inl ⟨rfl,_,SqL.of h1⟩,ax (by simp),fun q nq=>?_⟩;have s1:=Same.new (.tup [V.ref a,V.ref b]) nq;have ql:=Paired.length h2;refine ⟨pl,_,_,rfl,rfl,s1 _ _ h1,ir (by rw [List.length_map];omega),?_⟩;have kp:Kpt pl (upd H q (.tup [V.ref a,V.ref b])) (upd (upd H q (.tup [V.ref a,V.ref b])) pl (.lst (qs.map V.ref++[V.ref q]))):=Kpt.refl.put _;have kp2:Kpt pl H (upd (upd H q (.tup [V.ref a,V.ref b])) pl (.lst (qs.map V.ref++[V.ref q]))):=fun c y h n=>kp c y (s1 _ _ h) n;have O1:=O.same s1;refine k _ ⟨?_,O1.web.kptL kp (s1 _ _ h1),qs++[q],by rw [ah,List.map_append];rfl,?_⟩ kp2
   . obtain ⟨dx',ob'⟩:=O1.ob;exact ⟨dx',kp _ _ ob' (cY ob' (s1 _ _ h1) (by intro z;cases z))⟩
   . refine Aw ?_ (Paired.imp' (fun q s x=>StAt.kpt kp2 h1 x) h2);exact StAt.kpt kp (s1 _ _ h1) ⟨a,b,ah,s1 _ _ ha,s1 _ _ hb⟩
def fZ (T:Txt K mg):Sp:=fun vs H Q E=>∃ (p t:Addr) (m:Int) (ps:List Addr) (rs:List Road) (n:Int),vs=[.ref p,.int n]/\WebAt T.Web H p m t ps rs/\(0<=n->n<m->Q .non H)/\(¬ (0<=n/\n<m)->E (.ref T.NoPlace) none H)
abbrev bj:Stmt:=top 20
theorem Cn:FnScope ["web","number"] ["web","number"] (aa bj):=FnScope.of (by kernel_rfl)
theorem xU:NmL (aa bj) "web":=.of (by kernel_rfl)
theorem tf:NmL (aa bj) "number":=.of (by kernel_rfl)
theorem jH:NmG (aa bj) "is_place":=.of (by kernel_rfl)
theorem j8:NmG (aa bj) "NoPlace":=.of (by kernel_rfl)
theorem Cp (T:Txt K mg) (hq:aV (CXe P w)) {f:Addr} {fd:FuncData} (D:Df K mg "check_place" bj ["web","number"] f fd) {cK:Addr} {eC:FuncData} (bq:Df K mg "is_place" c6 ["many","number"] cK eC) (G_is_place:FnOk P w K mg base (CXe P w) 1 cK eC ["many","number"] (m3 T)):FnOk P w K mg base (CXe P w) 2 f fd ["web","number"] (fZ T):=by
 refine D.F.okX Cn (fun vs H Q E h=>?_) (fun cdv A outer s H vs Q E hr h=>?_)
 . obtain ⟨p,t,m,ps,rs,n,rfl,_⟩:=h
   rfl
 . obtain ⟨p,t,m,ps,rs,n,rfl,W,k,e⟩:=h;obtain ⟨dx,ob⟩:=W.ob;refine ⟨_,(al (aR (gn (gh (aE G_is_place (hr.mono (by decide)) jH.g bq.m bq.F.kp bq.b .nil bT (af (dA  (pvl 0 xU) rfl) (af (pvl 1 tf) aj)) (hdb:=jH.d)))) (al (pQ T.NQ rfl tP j8.g T.DH (af aN aj) (hdb:=j8.d))) aB)),?_⟩;rw [show L2.start ["web","number"] [V.ref p,V.int n]=[some (V.ref p),some (V.int n)] from rfl];walk_at "rd";refine ⟨T.Web,dx,_,ob,T.iQ,T.n_many,_,gP m t,m,n,rfl,_,rfl,?_⟩;by_cases c:0<=n/\n<m
   . rw [if_neg (by simp [c.1,c.2])];exact k c.1 c.2
   . rw [if_pos (by simpa [Bool.and_eq_true] using c)];exact ⟨by decide,e c⟩
def aI (m:Int) (xs:List Int):Bool:=decide ((xs.length:Int)=m) && xs.all fun x=>decide (0<=x)
theorem jm {m:Int} {xs:List Int} (h:(xs.length:Int)=m) (h0:∀ x∈xs,0<=x):aI m xs=true:=by
 unfold aI;rw [decide_eq_true h,Bool.true_and,List.all_eq_true];exact fun x hx=>decide_eq_true (h0 x hx)
theorem dI {m:Int} {xs:List Int} (h:aI m xs=true):(xs.length:Int)=m:=by
 unfold aI at h;rw [Bool.and_eq_true] at h;exact of_decide_eq_true h.1
theorem kP {m:Int} {xs:List Int} (h:aI m xs=true):∀ x∈xs,0<=x:=by
 unfold aI at h;rw [Bool.and_eq_true,List.all_eq_true] at h;exact fun x hx=>of_decide_eq_true (h.2 x hx)
def qi (T:Txt K mg):Sp:=fun vs H Q _=>∃ (p a t:Addr) (c:Bool) (m:Int) (ps:List Addr) (rs:List Road) (xs:List Int),vs=[.ref p,.ref a]/\WebAt T.Web H p m t ps rs/\SqX K c H a (xs.map V.int)/\xs.length<=1000/\∀ H',Same H H'->Q (.bl (aI m xs)) H'
abbrev cg:Stmt:=top 29
theorem Gu:FnScope ["web","numbers"] ["web","numbers"] (aa cg):=FnScope.of (by kernel_rfl)
theorem AF:NmL (aa cg) "web":=.of (by kernel_rfl)
theorem k9:NmL (aa cg) "numbers":=.of (by kernel_rfl)
theorem kF:NmG (aa cg) "len":=.of (by kernel_rfl)
theorem kH:NmG (aa cg) "all":=.of (by kernel_rfl)
theorem E9 (T:Txt K mg) (hq:aV (CXe P w)) {f:Addr} {fd:FuncData} (D:Df K mg "is_filled" cg ["web","numbers"] f fd):FnOk P w K mg base (CXe P w) 1 f fd ["web","numbers"] (qi T):=by
 refine D.F.okC Gu (fun vs H Q E h=>?_) (fun cdv A outer s H vs Q E hr h=>?_)
 . obtain ⟨p,a,t,c,m,ps,rs,xs,rfl,_⟩:=h
   rfl
 . obtain ⟨p,a,t,c,m,ps,rs,xs,rfl,W,ha,hz,k⟩:=h;refine ⟨_,(al (aF (xh (o9 bM (ba bL kF.g T.len eN (af (pvl 1 k9) aj) (hn:=kF.n) (hdb:=kF.d)) (dA  (pvl 0 AF) rfl) (aD _)) (BG (ba (Rz rfl) kH.g T.all To (af (Cz rfl (Ad (Nc:=["number"]) 1 (by decide +kernel) (by decide +kernel) rfl (by decide +kernel) rfl) (Oh c (pvl 1 k9)) (fun _ _ _ _=>(aP (i:=0) (show (["number"]:List Str).Nodup from by decide +kernel) rfl (Or.inl rfl))) (fun _ _ _ _=>CD) (fun _ _ _ _=>(o9 EI (pv 0) ag (aD _)))) aj) (hn:=kH.n) (hdb:=kH.d)))))),?_⟩;rw [show L2.start ["web","numbers"] [V.ref p,V.ref a]=[some (V.ref p),some (V.ref a)] from rfl];walk_at "rd";obtain ⟨dx,ob⟩:=W.ob;have ha':SqL K H a (xs.map V.int)\/SqT K H a (xs.map V.int):=by
     cases c
     . exact .inr ha
     . exact .inl ha
   refine ⟨_,ha',T.Web,dx,_,ob,T.iQ,T.n_many,_,gP m t,rfl,?_⟩;rw [List.length_map];by_cases hm:(xs.length:Int)=m
   . rw [if_pos (by rw [hm])];refine ⟨⟨_,ha⟩,fun l nl=>?_⟩;refine Ft (K:=K) (c:=c) (xs:=xs.map V.int) (fun i bs σ H2=>Same H H2/\H2 l=some (.lst bs)/\bs=((xs.take i).map fun x=>decide (0<=x)).map V.bl/\∃ v,σ=[v]) ⟨Same.new _ nl,ah,rfl,_,rfl⟩ (fun i bs σ H2 _ z=>Same.sqX z.1 ha) ?_ ?_
     . rintro i x bs σ H2 N hN hx ⟨s2,e2,rfl,v,rfl⟩;rw [List.getElem?_map] at hx;obtain ⟨y,gy,rfl⟩:=Option.map_eq_some_iff.mp hx;walk_at "rd";refine ⟨e2,ir (by rw [List.length_map,List.length_map,List.length_take];omega),hN _ _ _ ⟨s2.put nl _,ah,?_,_,rfl⟩⟩;rw [List.take_succ,gy,List.map_append,List.map_append]
       rfl
     . rintro bs σ H2 ⟨s2,e2,rfl,v,rfl⟩;refine ⟨l,rfl,_,SqL.of e2,?_⟩;have e:(((xs.take (xs.map V.int).length).map fun x=>decide (0<=x)).all id)=aI m xs:=by
         rw [List.length_map,List.take_length,List.all_map];unfold aI;rw [decide_eq_true hm,Bool.true_and]
         rfl
       rw [e];exact k _ s2
   . rw [if_neg (fun z=>hm (by injection z))];have e:aI m xs=false:=by
       unfold aI;rw [decide_eq_false hm,Bool.false_and]
     rw [e] at k;exact k H (Same.refl _)
def qf (T:Txt K mg):Sp:=fun vs H Q E=>∃ (p a t:Addr) (c:Bool) (m:Int) (ps:List Addr) (rs:List Road) (xs:List Int),vs=[.ref p,.ref a]/\WebAt T.Web H p m t ps rs/\SqX K c H a (xs.map V.int)/\xs.length<=1000 /\
 (aI m xs=true->∀ l H',Same H H'->(H' l=some (.tup (xs.map V.int))\/(c=false/\l=a))->SqT K H' l (xs.map V.int)->Q (.ref l) H')/\(aI m xs=false->∀ H',Same H H'->E (.ref T.BadLaying) none H')
abbrev b4:Stmt:=top 28
theorem FS:FnScope ["web","numbers"] ["web","numbers"] (aa b4):=FnScope.of (by kernel_rfl)
theorem AA:NmL (aa b4) "web":=.of (by kernel_rfl)
theorem lL:NmL (aa b4) "numbers":=.of (by kernel_rfl)
theorem ka:NmG (aa b4) "is_filled":=.of (by kernel_rfl)
theorem jX:NmG (aa b4) "BadLaying":=.of (by kernel_rfl)
theorem i9:NmG (aa b4) "tuple":=.of (by kernel_rfl)
theorem Fd (T:Txt K mg) (hq:aV (CXe P w)) {f:Addr} {fd:FuncData} (D:Df K mg "laying_of" b4 ["web","numbers"] f fd) {db:Addr} {jo:FuncData} (cT:Df K mg "is_filled" cg ["web","numbers"] db jo) (G_is_filled:FnOk P w K mg base (CXe P w) 1 db jo ["web","numbers"] (qi T)):FnOk P w K mg base (CXe P w) 2 f fd ["web","numbers"] (qf T):=by
 refine D.F.okX FS (fun vs H Q E h=>?_) (fun cdv A outer s H vs Q E hr h=>?_)
 . obtain ⟨p,a,t,c,m,ps,rs,xs,rfl,_⟩:=h
   rfl
 . obtain ⟨p,a,t,c,m,ps,rs,xs,rfl,W,ha,hz,k,e⟩:=h;refine ⟨_,(ak (aR (gn (gh (aE G_is_filled (hr.mono (by decide)) ka.g cT.m cT.F.kp cT.b .nil bT (af (pvl 0 AA) (af (pvl 1 lL) aj)) (hdb:=ka.d)))) (al (pQ T.Hw rfl tP jX.g T.zv (af aN aj) (hdb:=jX.d))) aB) (al (aF (cQ d0 i9.g T.tuple jk (af (pvl 1 lL) aj) (hn:=i9.n) (hdb:=i9.d))))),?_⟩;rw [show L2.start ["web","numbers"] [V.ref p,V.ref a]=[some (V.ref p),some (V.ref a)] from rfl];walk_at "rd";refine ⟨p,a,t,c,m,ps,rs,xs,rfl,W,ha,hz,fun H1 s1=>⟨_,rfl,?_⟩⟩;by_cases z:aI m xs=false
   . rw [if_pos z];exact ⟨by decide,e z H1 s1⟩
   . rw [if_neg z];have z':aI m xs=true:=(by simpa using z);cases c
     . exact ⟨_,.inr ⟨Same.sqX (c:=false) s1 ha,k z' a H1 s1 (.inr ⟨rfl,rfl⟩) (Same.sqX (c:=false) s1 ha)⟩⟩
     . exact ⟨_,.inl ⟨Same.sqX (c:=true) s1 ha,fun l nl=>k z' l _ (s1.trans (Same.new _ nl)) (.inl ah) (SqT.of ah)⟩⟩
def OP (T:Txt K mg):Sp:=fun vs H Q E=>∃ (p a t:Addr) (c:Bool) (m:Int) (ps:List Addr) (rs:List Road) (xs:List Int) (v n:Int),vs=[.ref p,.ref a,.int v,.int n]/\WebAt T.Web H p m t ps rs/\SqX K c H a (xs.map V.int)/\xs.length<=1000 /\
 (aI m xs=true->0<=v->v<m->0<=xs.getD v.toNat 0+n->∀ l H',Same H H'->H' l=some (.tup ((xs.set v.toNat (xs.getD v.toNat 0+n)).map V.int))->Q (.ref l) H') /\
 (aI m xs=false->∀ H',Same H H'->E (.ref T.BadLaying) none H')/\(aI m xs=true->¬ (0<=v/\v<m)->∀ H',Same H H'->E (.ref T.NoPlace) none H')/\(aI m xs=true->0<=v->v<m->xs.getD v.toNat 0+n<0->∀ H',Same H H'->E (.ref T.BadLaying) none H')
abbrev fT:Stmt:=top 31
theorem Nv:FnScope ["web","laying","place","many","counts"] ["web","laying","place","many"] (aa fT):=FnScope.of (by kernel_rfl)
theorem vl:NmL (aa fT) "web":=.of (by kernel_rfl)
theorem DS:NmL (aa fT) "laying":=.of (by kernel_rfl)
theorem xV:NmL (aa fT) "place":=.of (by kernel_rfl)
theorem Hh:NmL (aa fT) "many":=.of (by kernel_rfl)
theorem nQ:NmL (aa fT) "counts":=.of (by kernel_rfl)
theorem rF:NmG (aa fT) "list":=.of (by kernel_rfl)
theorem gw:NmG (aa fT) "laying_of":=.of (by kernel_rfl)
theorem nL:NmG (aa fT) "check_place":=.of (by kernel_rfl)
theorem Tc (T:Txt K mg) (hq:aV (CXe P w)) {f:Addr} {fd:FuncData} (D:Df K mg "put" fT ["web","laying","place","many"] f fd) {be:Addr} {bZ:FuncData} (aH:Df K mg "check_place" bj ["web","number"] be bZ) (G_check_place:FnOk P w K mg base (CXe P w) 2 be bZ ["web","number"] (fZ T)) {df:Addr} {iU:FuncData} (b5:Df K mg "laying_of" b4 ["web","numbers"] df iU) (G_laying_of:FnOk P w K mg base (CXe P w) 2 df iU ["web","numbers"] (qf T)):FnOk P w K mg base (CXe P w) 3 f fd ["web","laying","place","many"] (OP T):=by
 refine D.F.okX Nv (fun vs H Q E h=>?_) (fun cdv A outer s H vs Q E hr h=>?_)
 . obtain ⟨p,a,t,c,m,ps,rs,xs,v,n,rfl,_⟩:=h
   rfl
 . obtain ⟨p,a,t,c,m,ps,rs,xs,v,n,rfl,W,ha,hz,k,e1,e2,e3⟩:=h;have g:=W.go;have m24:=g.m24;refine ⟨_,(ak (aJ (i:=4) Nv.nd rfl (Or.inl nQ.l) (cQ jb rF.g T.list tV (af (aE G_laying_of (hr.mono (by decide)) gw.g b5.m b5.F.kp b5.b .nil bT (af (pvl 0 vl) (af (pvl 1 DS) aj)) (hdb:=gw.d)) aj) (hn:=rF.n) (hdb:=rF.d))) (ak (bP (aE G_check_place (hr.mono (by decide)) nL.g aH.m aH.F.kp aH.b .nil bT (af (pvl 0 vl) (af (pvl 2 xV) aj)) (hdb:=nL.d))) (ak (C4 (pvl 4 nQ) (pvl 2 xV) zO (pvl 3 Hh) Od iY) (al (aF (aE G_laying_of (hr.mono (by decide)) gw.g b5.m b5.F.kp b5.b .nil bT (af (pvl 0 vl) (af (pvl 4 nQ) aj)) (hdb:=gw.d))))))),?_⟩;rw [show L2.start ["web","laying","place","many","counts"] [V.ref p,V.ref a,V.int v,V.int n]=[some (V.ref p),some (V.ref a),some (V.int v),some (V.int n),none] from rfl];walk_at "rd";refine ⟨p,a,t,c,m,ps,rs,xs,rfl,W,ha,hz,fun fi l0 H0 s0 _ e0=>?_,e1⟩;have xl:(xs.length:Int)=m:=by
     unfold aI at fi;rw [Bool.and_eq_true] at fi;exact of_decide_eq_true fi.1
   refine ⟨l0,rfl,_,.inr e0,fun l n1=>?_⟩;have s01:=s0.trans (Same.new (.lst (xs.map V.int)) n1);have nl:=s0.free n1;have el:upd H0 l (.lst (xs.map V.int)) l=some (.lst (xs.map V.int)):=ah;generalize upd H0 l (.lst (xs.map V.int))=H1 at s01 el ⊢;refine ⟨p,t,m,ps,rs,v,rfl,W.same s01,fun v0 v1=>?_,fun z=>e2 fi z H1 s01⟩;refine ixL el (atG v0 (by omega)) ⟨_,rfl,wO el v0 (by rw [List.length_map];omega) ?_⟩;rw [<- List.map_set];have s2:=s01.put nl (.lst ((xs.set v.toNat (xs.getD v.toNat 0+n)).map V.int));have e2':upd H1 l (.lst ((xs.set v.toNat (xs.getD v.toNat 0+n)).map V.int)) l=some (.lst ((xs.set v.toNat (xs.getD v.toNat 0+n)).map V.int)):=ah;generalize upd H1 l (.lst ((xs.set v.toNat (xs.getD v.toNat 0+n)).map V.int))=H2 at s2 e2' ⊢;have yl:((xs.set v.toNat (xs.getD v.toNat 0+n)).length:Int)=m:=by rw [List.length_set];exact xl
   refine ⟨p,l,t,true,m,ps,rs,_,rfl,W.same s2,SqL.of e2',by omega,fun fy lr H3 s3 hl _=>?_,fun fy H3 s3=>?_⟩
   . have hl3:H3 lr=some (.tup ((xs.set v.toNat (xs.getD v.toNat 0+n)).map V.int)):=by
       rcases hl with z|z
       . exact z
       . cases z.1
     refine k fi v0 v1 ?_ lr H3 (s2.trans s3) hl3;unfold aI at fy;rw [Bool.and_eq_true,List.all_eq_true] at fy;exact of_decide_eq_true (fy.2 _ (List.mem_of_getElem? (i:=v.toNat) (by rw [List.getElem?_set_self (by omega)])))
   . refine e3 fi v0 v1 ?_ H3 (s2.trans s3);apply Classical.byContradiction;intro z;have:aI m (xs.set v.toNat (xs.getD v.toNat 0+n))=true:=by
       unfold aI at fi;rw [Bool.and_eq_true,List.all_eq_true] at fi;exact jm yl (EO (fun x hx=>of_decide_eq_true (fi.2 x hx)) (by omega))
     rw [this] at fy;cases fy
def IQ (T:Txt K mg):Sp:=fun vs H Q E=>∃ (p t:Addr) (m:Int) (ps:List Addr) (rs:List Road) (v n:Int),vs=[.ref p,.int v,.int n]/\WebAt T.Web H p m t ps rs /\
 (0<=v->v<m->0<=n->∀ l H',Same H H'->H' l=some (.tup (((List.replicate m.toNat (0:Int)).set v.toNat n).map V.int))->Q (.ref l) H') /\
 (¬ (0<=v/\v<m)->∀ H',Same H H'->E (.ref T.NoPlace) none H')/\(0<=v->v<m->n<0->∀ H',Same H H'->E (.ref T.BadLaying) none H')
abbrev gQ:Stmt:=top 30
theorem R8:FnScope ["web","place","many"] ["web","place","many"] (aa gQ):=FnScope.of (by kernel_rfl)
theorem zL:NmL (aa gQ) "web":=.of (by kernel_rfl)
theorem DY:NmL (aa gQ) "place":=.of (by kernel_rfl)
theorem F1:NmL (aa gQ) "many":=.of (by kernel_rfl)
theorem zx:NmG (aa gQ) "put":=.of (by kernel_rfl)
theorem Sy (T:Txt K mg) (hq:aV (CXe P w)) {f:Addr} {fd:FuncData} (D:Df K mg "pile" gQ ["web","place","many"] f fd) {uN:Addr} {Oz:FuncData} (y6:Df K mg "put" fT ["web","laying","place","many"] uN Oz) (G_put:FnOk P w K mg base (CXe P w) 3 uN Oz ["web","laying","place","many"] (OP T)):FnOk P w K mg base (CXe P w) 4 f fd ["web","place","many"] (IQ T):=by
 refine D.F.okX R8 (fun vs H Q E h=>?_) (fun cdv A outer s H vs Q E hr h=>?_)
 . obtain ⟨p,t,m,ps,rs,v,n,rfl,_⟩:=h
   rfl
 . obtain ⟨p,t,m,ps,rs,v,n,rfl,W,k,e2,e3⟩:=h;have g:=W.go;have m1:=g.m1;have m24:=g.m24;obtain ⟨dx,ob⟩:=W.ob;refine ⟨_,(al (aF (aE G_put (hr.mono (by decide)) zx.g y6.m y6.F.kp y6.b .nil bT (af (pvl 0 zL) (af (ao AV (bE (af ag aj)) (dA  (pvl 0 zL) rfl)) (af (pvl 1 DY) (af (pvl 2 F1) aj)))) (hdb:=zx.d)))),?_⟩;rw [show L2.start ["web","place","many"] [V.ref p,V.int v,V.int n]=[some (V.ref p),some (V.int v),some (V.int n)] from rfl];walk_at "rd";refine ⟨ax (by simp),fun l0 n0=>?_⟩;have s0:=Same.new (.lst [V.int 0]) n0;refine ⟨T.Web,dx,_,s0 _ _ ob,T.iQ,T.n_many,_,gP m t,?_⟩;refine ⟨l0,m,_,rfl,rfl,ah,by omega,by omega,ax (by simp;omega),fun l n1=>?_⟩;rw [Up];have s1:=s0.trans (Same.new (.lst (List.replicate m.toNat (V.int 0))) n1);have e1:upd (upd H l0 (.lst [V.int 0])) l (.lst (List.replicate m.toNat (V.int 0))) l=some (.lst ((List.replicate m.toNat (0:Int)).map V.int)):=by rw [ah,List.map_replicate]
   generalize upd (upd H l0 (.lst [V.int 0])) l (.lst (List.replicate m.toNat (V.int 0)))=H1 at s1 e1 ⊢;have zl:((List.replicate m.toNat (0:Int)).length:Int)=m:=by rw [List.length_replicate];omega
   have z0:∀ x∈List.replicate m.toNat (0:Int),0<=x:=fun x hx=>by rw [(List.mem_replicate.mp hx).2];decide
   have fz:=jm zl z0;have hz:0<=v->v<m->(List.replicate m.toNat (0:Int)).getD v.toNat 0=0:=fun v0 v1=>by
     rw [List.getD,List.getElem?_replicate_of_lt (by omega)];rfl
   refine ⟨p,l,t,true,m,ps,rs,_,v,n,rfl,W.same s1,SqL.of e1,by omega,fun _ v0 v1 h0 lr H2 s2 e=>?_,fun z=>(by rw [fz] at z;cases z),fun _ z H2 s2=>e2 z H2 (s1.trans s2),fun _ v0 v1 h0 H2 s2=>?_⟩
   . rw [hz v0 v1,Int.zero_add] at h0 e;exact k v0 v1 h0 lr H2 (s1.trans s2) e
   . rw [hz v0 v1,Int.zero_add] at h0;exact e3 v0 v1 h0 H2 (s1.trans s2)
def zD (T:Txt K mg):Sp:=fun vs H Q E=>∃ (o wb pl t:Addr) (m:Int) (ps:List Addr) (rs:List Road) (sts:List (List Int × List Int)) (s:List Int × List Int) (v n:Int),vs=[.ref o,.int v,.int n]/\DeskAt T.Web T.Desk H o wb pl m t ps rs (sts++[s])/\sts.length<=500/\(s.1.length:Int)=m /\
 ((0<=v/\v<m)->0<=n->∀ H',DeskAt T.Web T.Desk H' o wb pl m t ps rs (sts++[s]++[(s.1.set v.toNat (s.1.getD v.toNat 0+n),s.2)])->Kpt pl H H'->Q .non H')/\(¬ (0<=v/\v<m)->∀ H',Same H H'->E (.ref T.NoPlace) none H')/\(0<=v->v<m->n<0->∀ H',Same H H'->E (.ref T.BadLaying) none H')
abbrev cr:Stmt:=gm (top 42) 1
theorem zi:FnScope ["self","place","many","heap"] ["self","place","many"] (aa cr):=FnScope.of (by kernel_rfl)
theorem gM:NmL (aa cr) "self":=.of (by kernel_rfl)
theorem zh:NmL (aa cr) "place":=.of (by kernel_rfl)
theorem Av:NmL (aa cr) "many":=.of (by kernel_rfl)
theorem qu:NmL (aa cr) "heap":=.of (by kernel_rfl)
theorem pK:NmG (aa cr) "pile":=.of (by kernel_rfl)
theorem jS:NmG (aa cr) "tuple":=.of (by kernel_rfl)
theorem B5:NmG (aa cr) "zip":=.of (by kernel_rfl)
theorem HA (T:Txt K mg) (hq:aV (CXe P w)) {f:Addr} {fd:FuncData} (F:Fun K "put" "Desk.put" cr f fd) {f_Desk_keep:Addr} {cC:FuncData} (F_Desk_keep:Fun K "keep" "Desk.keep" cD f_Desk_keep cC) (b_Desk_keep:Binds K cC ["self","laying","wish"] []) (dG:Meth K T.Desk "keep" f_Desk_keep) (G_Desk_keep:FnOk P w K mg base (CXe P w) 1 f_Desk_keep cC ["self","laying","wish"] (lS T)) {f_Desk_laying:Addr} {bd:FuncData} (F_Desk_laying:Fun K "laying" "Desk.laying" ce f_Desk_laying bd) (b_Desk_laying:Binds K bd ["self"] []) (bU:Meth K T.Desk "laying" f_Desk_laying) (G_Desk_laying:FnOk P w K mg base (CXe P w) 1 f_Desk_laying bd ["self"] (gc T)) {f_Desk_wish:Addr} {bz:FuncData} (F_Desk_wish:Fun K "wish" "Desk.wish" cW f_Desk_wish bz) (b_Desk_wish:Binds K bz ["self"] []) (cG:Meth K T.Desk "wish" f_Desk_wish) (G_Desk_wish:FnOk P w K mg base (CXe P w) 1 f_Desk_wish bz ["self"] (iG T)) {ph:Addr} {Ji:FuncData} (tR:Df K mg "pile" gQ ["web","place","many"] ph Ji) (G_pile:FnOk P w K mg base (CXe P w) 4 ph Ji ["web","place","many"] (IQ T)):FnOk P w K mg base (CXe P w) 5 f fd ["self","place","many"] (zD T):=by
 refine F.okX zi (fun vs H Q E h=>?_) (fun cdv A outer s H vs Q E hr h=>?_)
 . obtain ⟨o,wb,pl,t,m,ps,rs,sts,s,v,n,rfl,_⟩:=h
   rfl
 . obtain ⟨o,wb,pl,t,m,ps,rs,sts,s,v,n,rfl,O,sl,xl,k,e1',e2'⟩:=h;obtain ⟨dx,ob⟩:=O.ob;have m24:=O.web.go.m24;refine ⟨_,(ak (aJ (i:=3) zi.nd rfl (Or.inl qu.l) (aE G_pile (hr.mono (by decide)) pK.g tR.m tR.F.kp tR.b .nil bT (af (dA  (pvl 0 gM) rfl) (af (pvl 1 zh) (af (pvl 2 Av) aj))) (hdb:=pK.d))) (al (bP (pb (pvl 0 gM) T.bp dG G_Desk_keep (hr.mono (by decide)) b_Desk_keep .nil bT (af (cQ d0 jS.g T.tuple jk (af (Cz rfl (Ad (Nc:=["has","more"]) 2 (by decide +kernel) (by decide +kernel) rfl (by decide +kernel) rfl) (TY false false B5.g T.zip (af (eT (pvl 0 gM) T.bp bU G_Desk_laying (hr.mono (by decide)) b_Desk_laying .nil bT) (af (pvl 3 qu) aj))) (fun _ _ _ _=>(Sj K rfl (n:=2) rfl (aZ (aP (i:=0) (show (["has","more"]:List Str).Nodup from by decide +kernel) rfl (Or.inl rfl)) (aZ (aP (i:=1) (show (["has","more"]:List Str).Nodup from by decide +kernel) rfl (Or.inl rfl)) hG)))) (fun _ _ _ _=>CD) (fun _ _ _ _=>(ao cA (pv 0) (pv 1)))) aj) (hn:=jS.n) (hdb:=jS.d)) (af (eT (pvl 0 gM) T.bp cG G_Desk_wish (hr.mono (by decide)) b_Desk_wish .nil bT) aj)))))),?_⟩;rw [show L2.start ["self","place","many","heap"] [V.ref o,V.int v,V.int n]=[some (V.ref o),some (V.int v),some (V.int n),none] from rfl];walk_at "rd";refine ⟨T.Desk,dx,_,ob,T.bp,T.n_web,_,xz _ _,?_⟩;refine ⟨wb,t,m,ps,rs,v,n,rfl,O.web,fun v0 v1 n0 l1 H1 s1 e1=>?_,e1',e2'⟩;have vr:0<=v/\v<m:=⟨v0,v1⟩;have O1:=O.same s1;obtain ⟨dx1,ob1⟩:=O1.ob;refine O1.meth ?_;refine O1.meth ⟨o,wb,pl,t,m,ps,rs,sts,s,rfl,O1,fun la hla=>?_⟩;have pl24:((List.replicate m.toNat (0:Int)).set v.toNat n).length=m.toNat:=by rw [List.length_set,List.length_replicate]
   refine ⟨la,l1,⟨rfl,rfl⟩,⟨_,SqT.of hla⟩,⟨_,SqT.of e1⟩,fun p hp=>?_⟩;refine RC (K:=K) (c:=false) (d:=false) (xs:=s.1.map V.int) (zs:=((List.replicate m.toNat (0:Int)).set v.toNat n).map V.int) (fun i bs σ H2=>Same H1 H2/\H2 p=some (.lst bs)/\bs=(((s.1.zip ((List.replicate m.toNat (0:Int)).set v.toNat n)).take i).map fun q=>q.1+q.2).map V.int/\∃ v w,σ=[v,w]) ⟨Same.new _ hp,ah,rfl,_,_,rfl⟩ (fun i bs σ H2 z=>⟨SqT.of (z.1 _ _ hla),SqT.of (z.1 _ _ e1)⟩) ?_ ?_
   . rintro i x z bs σ H2 q N hN hx hz' ⟨s2,e2,rfl,v',w,rfl⟩ hq;rw [List.getElem?_map] at hx hz';obtain ⟨x,gx,rfl⟩:=Option.map_eq_some_iff.mp hx;obtain ⟨z,gz,rfl⟩:=Option.map_eq_some_iff.mp hz';have s3:=Same.new (.tup [V.int x,V.int z]) hq;have hix:=(List.getElem?_eq_some_iff.mp gx).1;walk_at "rd";refine ⟨_,SqT.of ah,rfl,_,_,rfl,_,_,rfl,rfl,?_⟩;walk_at "rd";refine ⟨s3 _ _ e2,ir (by simp;omega),hN _ _ _ ⟨(s2.trans s3).put hp _,ah,?_,_,_,rfl⟩⟩;have hzz:(s.1.zip ((List.replicate m.toNat (0:Int)).set v.toNat n))[i]?=some (x,z):=(by rw [List.getElem?_zip_eq_some];exact ⟨gx,gz⟩);rw [List.take_succ,hzz,List.map_append,List.map_append]
     rfl
   . rintro bs σ H2 ⟨s2,e2,rfl,v',w,rfl⟩;have e:(((s.1.zip ((List.replicate m.toNat (0:Int)).set v.toNat n)).take (min (s.1.map V.int).length (((List.replicate m.toNat (0:Int)).set v.toNat n).map V.int).length)).map fun q=>q.1+q.2)=s.1.set v.toNat (s.1.getD v.toNat 0+n):=by
       rw [List.take_of_length_le (by rw [List.length_zip,List.length_map,List.length_map];exact Nat.le_refl _),<- Qu xl vr.1 vr.2];unfold xI;rw [List.zip,List.map_zipWith]
     rw [e] at e2;refine ⟨p,rfl,_,.inl ⟨SqL.of e2,fun l3 n3=>?_⟩⟩;have s3:=s2.trans (Same.new (.tup ((s.1.set v.toNat (s.1.getD v.toNat 0+n)).map V.int)) n3);have e3:upd H2 l3 (.tup ((s.1.set v.toNat (s.1.getD v.toNat 0+n)).map V.int)) l3=some (.tup ((s.1.set v.toNat (s.1.getD v.toNat 0+n)).map V.int)):=ah;generalize upd H2 l3 (.tup ((s.1.set v.toNat (s.1.getD v.toNat 0+n)).map V.int))=H3 at s3 e3 ⊢;have O3:=O1.same s3;refine O3.meth ⟨o,wb,pl,t,m,ps,rs,sts,s,rfl,O3,fun lb hlb=>?_⟩;refine ⟨o,wb,pl,t,l3,lb,m,ps,rs,_,(_,_),rfl,O3,e3,hlb,by rw [List.length_append];simp;omega,fun H4 O4 k4=>k vr n0 H4 O4 ?_⟩;exact fun c y h n=>k4 c y (s3 _ _ (s1 _ _ h)) n
def me (T:Txt K mg):Sp:=fun vs H Q _=>∃ (ea fI:Addr) (n:Int),vs=[.ref ea,.int n]/\H ea=some (ExN ea (.ref T.BadStep) none)/\y8 K T.BadStep fI/\∀ dx,H dx=none->dx≠ea->Q .non (upd (upd H ea (ExN ea (.ref T.BadStep) (some dx))) dx (.xd [("at",.int n)]))
abbrev bu:Stmt:=gm (top 12) 0
theorem wv:FnScope ["self","at"] ["self","at"] (aa bu):=FnScope.of (by kernel_rfl)
theorem iM:NmL (aa bu) "self":=.of (by kernel_rfl)
theorem j0:NmL (aa bu) "at":=.of (by kernel_rfl)
theorem fQ:NmG (aa bu) "TollError":=.of (by kernel_rfl)
theorem wz (T:Txt K mg) (hq:aV (CXe P w)) {f:Addr} {fd:FuncData} (F:Fun K "__init__" "BadStep.__init__" bu f fd):FnOk P w K mg base (CXe P w) 1 f fd ["self","at"] (me T):=by
 refine F.okC wv (fun vs H Q E h=>?_) (fun cdv A outer s H vs Q E hr h=>?_)
 . obtain ⟨ea,fI,n,rfl,_⟩:=h
   rfl
 . obtain ⟨ea,fI,n,rfl,he,xo,k⟩:=h;refine ⟨_,(ak (bP (Hl T.HW fQ.g T.zo (af (pvl 0 iM) (af (pvl 1 j0) aj)) (hdb:=fQ.d))) (al (Sb rfl (pvl 0 iM) (pvl 1 j0) rfl))),?_⟩;rw [show L2.start ["self","at"] [V.ref ea,V.int n]=[some (V.ref ea),some (V.int n)] from rfl];show ∃ v,_;refine ⟨V.ref ea,rfl,V.int n,rfl,?_⟩;refine ⟨ea,T.BadStep,fI,none,[V.int n],rfl,ax (by simp),xo,he,?_⟩;show ∃ v,_;refine ⟨V.int n,rfl,V.ref ea,rfl,?_⟩;exact ⟨ea,T.BadStep,T.TollError,rfl,he,T.Ol,k⟩
def Jj (T:Txt K mg):Sp:=fun vs H Q E=>∃ (p t:Addr) (m:Int) (ps:List Addr) (rs:List Road) (a b:Int),vs=[.ref p,.int a,.int b]/\WebAt T.Web H p m t ps rs /\
 (∀ k,0<=a->a<m->0<=b->b<m->bF rs a b=some k->Q (.int k) H)/\(¬ ((0<=a/\a<m)/\(0<=b/\b<m))->E (.ref T.NoPlace) none H)/\(0<=a->a<m->0<=b->b<m->bF rs a b=none->E (.ref T.NoRoad) none H)
abbrev dP:Stmt:=top 18
theorem tz:FnScope ["web","a","b","one","other","there","back"] ["web","a","b"] (aa dP):=FnScope.of (by kernel_rfl)
theorem rT:NmL (aa dP) "web":=.of (by kernel_rfl)
theorem xO:NmL (aa dP) "a":=.of (by kernel_rfl)
theorem wW:NmL (aa dP) "b":=.of (by kernel_rfl)
theorem rg:NmL (aa dP) "one":=.of (by kernel_rfl)
theorem nR:NmL (aa dP) "other":=.of (by kernel_rfl)
theorem vW:NmL (aa dP) "there":=.of (by kernel_rfl)
theorem xG:NmL (aa dP) "back":=.of (by kernel_rfl)
theorem eX:NmG (aa dP) "check_place":=.of (by kernel_rfl)
theorem sU:NmG (aa dP) "NoRoad":=.of (by kernel_rfl)
theorem S7 (T:Txt K mg) (hq:aV (CXe P w)) {f:Addr} {fd:FuncData} (D:Df K mg "toll" dP ["web","a","b"] f fd) {be:Addr} {bZ:FuncData} (aH:Df K mg "check_place" bj ["web","number"] be bZ) (G_check_place:FnOk P w K mg base (CXe P w) 2 be bZ ["web","number"] (fZ T)):FnOk P w K mg base (CXe P w) 3 f fd ["web","a","b"] (Jj T):=by
 refine D.F.okX tz (fun vs H Q E h=>?_) (fun cdv A outer s H vs Q E hr h=>?_)
 . obtain ⟨p,t,m,ps,rs,a,b,rfl,_⟩:=h
   rfl
 . obtain ⟨p,t,m,ps,rs,a,b,rfl,W,k,e1,e2⟩:=h;obtain ⟨dx,ob⟩:=W.ob;refine ⟨_,(ak (bP (aE G_check_place (hr.mono (by decide)) eX.g aH.m aH.F.kp aH.b .nil bT (af (pvl 0 rT) (af (pvl 1 xO) aj)) (hdb:=eX.d))) (ak (bP (aE G_check_place (hr.mono (by decide)) eX.g aH.m aH.F.kp aH.b .nil bT (af (pvl 0 rT) (af (pvl 2 wW) aj)) (hdb:=eX.d))) (ak (je PassesOwn.leaving rfl (wI (dA  (pvl 0 rT) rfl)) (jW (n:=4) rfl (aZ (aP (i:=3) tz.nd rfl (Or.inl rg.l)) (aZ (aP (i:=4) tz.nd rfl (Or.inl nR.l)) (aZ (aP (i:=5) tz.nd rfl (Or.inl vW.l)) (aZ (aP (i:=6) tz.nd rfl (Or.inl xG.l)) hG))))) (ak (aR (PW.pt (lF (ay bM (pvl 3 rg) (pvl 1 xO) (aD _)) (jw (ay bM (pvl 4 nR) (pvl 2 wW) (aD _))))) (al (aF (pvl 5 vW))) aB) (al (aR (PW.pt (lF (ay bM (pvl 3 rg) (pvl 2 wW) (aD _)) (jw (ay bM (pvl 4 nR) (pvl 1 xO) (aD _))))) (al (aF (pvl 6 xG))) aB)))) (al (pQ T.QB rfl tP sU.g T.FQ (af aN aj) (hdb:=sU.d)))))),?_⟩;rw [show L2.start ["web","a","b","one","other","there","back"] [V.ref p,V.int a,V.int b]=[some (V.ref p),some (V.int a),some (V.int b),none,none,none,none] from rfl];walk_at "rd";refine ⟨p,t,m,ps,rs,a,rfl,W,fun a0 a1=>?_,fun z=>e1 fun w=>z w.1⟩;refine ⟨p,t,m,ps,rs,b,rfl,W,fun b0 b1=>?_,fun z=>e1 fun w=>z w.2⟩;refine ⟨T.Web,dx,_,ob,T.iQ,T.n_roads,_,rR m t,t,rfl,⟨_,SqT.of W.tu⟩,?_⟩;have hlen:ps.length=rs.length:=Paired.length W.ro;refine GZ (K:=K) (xs:=ps.map V.ref) (fun i σ H2=>H2=H/\bF (rs.take i) a b=none/\∃ v1 v2 v3 v4,σ=[some (V.ref p),some (V.int a),some (V.int b),v1,v2,v3,v4]) ⟨rfl,rfl,_,_,_,_,rfl⟩ (fun i σ H2 _ z=>by rw [z.1];exact SqT.of W.tu) ?_ ?_
   . rintro i x σ H2 N hN hx ⟨rfl,hno,v1,v2,v3,v4,rfl⟩;obtain ⟨q,r,rfl,h1,h2,h3⟩:=W.ro.get hx;have et:rs.take (i+1)=rs.take i++[r]:=(by rw [List.take_succ,h2];rfl);have split:bF rs a b=(bF (rs.take i) a b).or ((dU a b r).or (bF (rs.drop (i+1)) a b)):=by
       have:rs=rs.take i++r::rs.drop (i+1):=by
         have hil:i<rs.length:=(List.getElem?_eq_some_iff.mp h2).1;have e:rs[i]=r:=(by rw [List.getElem?_eq_getElem hil] at h2;exact Option.some.inj h2);rw [<- e,List.getElem_cons_drop,List.take_append_drop]
       conv=>lhs;rw [this]
       unfold bF;rw [List.findSome?_append,List.findSome?_cons];cases dU a b r <;> rfl
     rw [hno,Option.none_or] at split;walk_at "rd";refine ⟨_,SqT.of h3,rfl,_,_,rfl,_,_,rfl,_,_,rfl,_,_,rfl,rfl,?_⟩;walk_at "rd";have next:dU a b r=none->N [some (V.ref p),some (V.int a),some (V.int b),some (V.int r.a),some (V.int r.b),some (V.int r.t),some (V.int r.u)] H2:=fun z=>hN _ _ ⟨rfl,by
       rw [et];unfold bF at hno ⊢;rw [List.findSome?_append,hno,List.findSome?_cons,z]
       rfl,_,_,_,_,rfl⟩
     have got:∀ v,dU a b r=some v->bF rs a b=some v:=fun v z=>by rw [split,z];rfl
     unfold dU at next got;split
     . rename_i c1
       split
       . rename_i c2
         exact k _ a0 a1 b0 b1 (got _ (by rw [if_pos ⟨c1,c2⟩]))
       . rename_i c2
         split
         . rename_i c3
           split
           . rename_i c4
             exact k _ a0 a1 b0 b1 (got _ (by rw [if_neg (fun z=>c2 z.2),if_pos ⟨c3,c4⟩]))
           . rename_i c4
             exact next (by rw [if_neg (fun z=>c2 z.2),if_neg (fun z=>c4 z.2)])
         . rename_i c3
           exact next (by rw [if_neg (fun z=>c2 z.2),if_neg (fun z=>c3 z.1)])
     . rename_i c1
       split
       . rename_i c3
         split
         . rename_i c4
           exact k _ a0 a1 b0 b1 (got _ (by rw [if_neg (fun z=>c1 z.1),if_pos ⟨c3,c4⟩]))
         . rename_i c4
           exact next (by rw [if_neg (fun z=>c1 z.1),if_neg (fun z=>c4 z.2)])
       . rename_i c3
         exact next (by rw [if_neg (fun z=>c1 z.1),if_neg (fun z=>c3 z.1)])
   . rintro σ H2 ⟨rfl,hno,v1,v2,v3,v4,rfl⟩;rw [List.length_map,hlen,List.take_length] at hno;walk_at "rd";exact ⟨by decide,e2 a0 a1 b0 b1 hno⟩
def AR (T:Txt K mg):Sp:=fun vs H Q _=>∃ (p q t:Addr) (m:Int) (ps:List Addr) (rs:List Road) (s:Stp),vs=[.ref p,.ref q]/\WebAt T.Web H p m t ps rs/\H q=some (.tup (vSt s))/\jA m rs s=true/\Q (.int (s.2.2*eW rs s.1 s.2.1)) H
abbrev fc:Stmt:=top 37
theorem QH:FnScope ["web","step"] ["web","step"] (aa fc):=FnScope.of (by kernel_rfl)
theorem ER:NmL (aa fc) "web":=.of (by kernel_rfl)
theorem n6:NmL (aa fc) "step":=.of (by kernel_rfl)
theorem vQ:NmG (aa fc) "toll":=.of (by kernel_rfl)
theorem RH (T:Txt K mg) (hq:aV (CXe P w)) {f:Addr} {fd:FuncData} (D:Df K mg "taken" fc ["web","step"] f fd) {pU:Addr} {IT:FuncData} (tU:Df K mg "toll" dP ["web","a","b"] pU IT) (G_toll:FnOk P w K mg base (CXe P w) 3 pU IT ["web","a","b"] (Jj T)):FnOk P w K mg base (CXe P w) 4 f fd ["web","step"] (AR T):=by
 refine D.F.okC QH (fun vs H Q E h=>?_) (fun cdv A outer s H vs Q E hr h=>?_)
 . obtain ⟨p,q,t,m,ps,rs,s,rfl,_⟩:=h
   rfl
 . obtain ⟨p,q,t,m,ps,rs,s,rfl,W,hs,is,k⟩:=h;have g:=W.go;obtain ⟨kk,e1,e2,kr,br⟩:=Dp g is;have ar:=(qp is).1;refine ⟨_,(al (aF (ao nj (au bo (pvl 1 n6) ag (fun _ _=>rfl)) (aE G_toll (hr.mono (by decide)) vQ.g tU.m tU.F.kp tU.b .nil (bH hq) (af (pvl 0 ER) (af (au bo (pvl 1 n6) ag (fun _ _=>rfl)) (af (au bo (pvl 1 n6) ag (fun _ _=>rfl)) aj))) (hdb:=vQ.d))))),?_⟩;rw [show L2.start ["web","step"] [V.ref p,V.ref q]=[some (V.ref p),some (V.ref q)] from rfl];walk_at "rd";refine ixT hs rfl (ixT hs rfl (ixT hs rfl ?_));refine ex7 p t m ps rs s.1 s.2.1 ?_;refine an5 rfl W (fun k' _ _ _ _ h=>?_) (fun z=>absurd ⟨ar,br⟩ z) (fun _ _ _ _ z=>by rw [e1] at z;cases z);rw [e1] at h;cases h;rw [e2] at k;exact ⟨_,rfl,_,rfl,.inr ⟨by omega,by omega⟩,k⟩
def DL (T:Txt K mg):Sp:=fun vs H Q _=>∃ (p a q t:Addr) (m:Int) (ps:List Addr) (rs:List Road) (xs:List Int) (s:Stp),vs=[.ref p,.ref a,.ref q]/\WebAt T.Web H p m t ps rs/\SqT K H a (xs.map V.int)/\(xs.length:Int)=m/\H q=some (.tup (vSt s))/\jA m rs s=true/\∀ l H',H l=none->Same H H'->H' l=some (.tup ((gH rs xs s).map V.int))->Q (.ref l) H'
abbrev c8:Stmt:=top 38
theorem Dy:FnScope ["web","laying","step","counts"] ["web","laying","step"] (aa c8):=FnScope.of (by kernel_rfl)
theorem Ew:NmL (aa c8) "web":=.of (by kernel_rfl)
theorem zV:NmL (aa c8) "laying":=.of (by kernel_rfl)
theorem jt:NmL (aa c8) "step":=.of (by kernel_rfl)
theorem gB:NmL (aa c8) "counts":=.of (by kernel_rfl)
theorem mx:NmG (aa c8) "list":=.of (by kernel_rfl)
theorem qS:NmG (aa c8) "taken":=.of (by kernel_rfl)
theorem lB:NmG (aa c8) "tuple":=.of (by kernel_rfl)
theorem Nf (T:Txt K mg) (hq:aV (CXe P w)) {f:Addr} {fd:FuncData} (D:Df K mg "behind" c8 ["web","laying","step"] f fd) {gZ:Addr} {qt:FuncData} (gb:Df K mg "taken" fc ["web","step"] gZ qt) (G_taken:FnOk P w K mg base (CXe P w) 4 gZ qt ["web","step"] (AR T)):FnOk P w K mg base (CXe P w) 5 f fd ["web","laying","step"] (DL T):=by
 refine D.F.okC Dy (fun vs H Q E h=>?_) (fun cdv A outer s H vs Q E hr h=>?_)
 . obtain ⟨p,a,q,t,m,ps,rs,xs,s,rfl,_⟩:=h
   rfl
 . obtain ⟨p,a,q,t,m,ps,rs,xs,s,rfl,W,ha,xl,hs,is,k⟩:=h;have g:=W.go;have m24:=g.m24;obtain ⟨kk,e1,e2,kr,br⟩:=Dp g is;have ar:=(qp is).1;refine ⟨_,(ak (aJ (i:=3) Dy.nd rfl (Or.inl gB.l) (cQ jb mx.g T.list tV (af (pvl 1 zV) aj) (hn:=mx.n) (hdb:=mx.d))) (ak (C4 (pvl 3 gB) (au bo (pvl 2 jt) ag (fun _ _=>rfl)) zO (aE G_taken (hr.mono (by decide)) qS.g gb.m gb.F.kp gb.b .nil (bH hq) (af (pvl 0 Ew) (af (pvl 2 jt) aj)) (hdb:=qS.d)) Tv iY) (ak (C4 (pvl 3 gB) (au bo (pvl 2 jt) ag (fun _ _=>rfl)) zO (au bo (pvl 2 jt) ag (fun _ _=>rfl)) Od iY) (al (aF (cQ d0 lB.g T.tuple jk (af (pvl 3 gB) aj) (hn:=lB.n) (hdb:=lB.d))))))),?_⟩;rw [show L2.start ["web","laying","step","counts"] [V.ref p,V.ref a,V.ref q]=[some (V.ref p),some (V.ref a),some (V.ref q),none] from rfl];walk_at "rd";refine ⟨_,.inr ha,fun l nl=>?_⟩;have s1:=Same.new (.lst (xs.map V.int)) nl;have hs1:=s1 _ _ hs;have el:upd H l (.lst (xs.map V.int)) l=some (.lst (xs.map V.int)):=ah;generalize upd H l (.lst (xs.map V.int))=H1 at s1 hs1 el ⊢;refine ixT hs1 rfl (ixL el (atG ar.1 (by omega)) ?_);refine ex7 p q t m ps rs s ?_;refine an5 rfl (W.same s1) hs1 is ?_;refine ⟨_,rfl,_,rfl,wO el ar.1 (by rw [List.length_map];omega) ?_⟩;rw [<- List.map_set];have nql:q≠l:=cY hs1 el (by intro z;cases z);have yl:(xs.set s.1.toNat (xs.getD s.1.toNat 0 - s.2.2*eW rs s.1 s.2.1)).length=xs.length:=by rw [List.length_set]
   have hk:gH rs xs s=(xs.set s.1.toNat (xs.getD s.1.toNat 0 - s.2.2*eW rs s.1 s.2.1)).set s.2.1.toNat ((xs.set s.1.toNat (xs.getD s.1.toNat 0 - s.2.2*eW rs s.1 s.2.1)).getD s.2.1.toNat 0+s.2.2):=rfl;generalize xs.set s.1.toNat (xs.getD s.1.toNat 0 - s.2.2*eW rs s.1 s.2.1)=ys at yl hk ⊢;have hs2:upd H1 l (.lst (ys.map V.int)) q=some (.tup (vSt s)):=by rw [aq nql];exact hs1
   refine ixT hs2 rfl (ixL ah (atG br.1 (by omega)) (ixT hs2 rfl ⟨_,rfl,_,rfl,wO ah br.1 (by rw [List.length_map];omega) ?_⟩));rw [hJ,<- List.map_set,<- hk];refine ⟨_,.inl ⟨SqL.of ah,fun l2 n2=>?_⟩⟩;have n20:H l2=none:=by
     have nl2:l2≠l:=fun z=>by rw [z,ah] at n2;cases n2
     rw [aq nl2] at n2;exact s1.free n2
   exact k l2 _ n20 ((s1.put nl _).trans (Same.new _ n2)) ah
def vO (T:Txt K mg):Sp:=fun vs H Q E=>∃ (p t:Addr) (m:Int) (ps:List Addr) (rs:List Road) (a:Int),vs=[.ref p,.int a]/\WebAt T.Web H p m t ps rs /\
 (∀ l H',0<=a->a<m->H l=none->Same H H'->H' l=some (.lst ((mH m rs a).map V.int))->Q (.ref l) H')/\(¬ (0<=a/\a<m)->E (.ref T.NoPlace) none H)
abbrev bW:Stmt:=top 19
theorem Er:FnScope ["web","a"] ["web","a"] (aa bW):=FnScope.of (by kernel_rfl)
theorem oE:NmL (aa bW) "web":=.of (by kernel_rfl)
theorem qQ:NmL (aa bW) "a":=.of (by kernel_rfl)
theorem iq:NmG (aa bW) "check_place":=.of (by kernel_rfl)
theorem gr:NmG (aa bW) "sorted":=.of (by kernel_rfl)
theorem iR:NmG (aa bW) "other_ends":=.of (by kernel_rfl)
theorem DR (T:Txt K mg) (hq:aV (CXe P w)) {f:Addr} {fd:FuncData} (D:Df K mg "neighbours" bW ["web","a"] f fd) {be:Addr} {bZ:FuncData} (aH:Df K mg "check_place" bj ["web","number"] be bZ) (G_check_place:FnOk P w K mg base (CXe P w) 2 be bZ ["web","number"] (fZ T)) {cR:Addr} {gR:FuncData} (cz:Df K mg "other_ends" bX ["roads","place"] cR gR) (G_other_ends:FnOk P w K mg base (CXe P w) 1 cR gR ["roads","place"] (oq T)):FnOk P w K mg base (CXe P w) 3 f fd ["web","a"] (vO T):=by
 refine D.F.okX Er (fun vs H Q E h=>?_) (fun cdv A outer s H vs Q E hr h=>?_)
 . obtain ⟨p,t,m,ps,rs,a,rfl,_⟩:=h
   rfl
 . obtain ⟨p,t,m,ps,rs,a,rfl,W,k,e⟩:=h;obtain ⟨dx,ob⟩:=W.ob;refine ⟨_,(ak (bP (aE G_check_place (hr.mono (by decide)) iq.g aH.m aH.F.kp aH.b .nil bT (af (pvl 0 oE) (af (pvl 1 qQ) aj)) (hdb:=iq.d))) (al (aF (ba Ig gr.g T.sorted OQ (af (aE G_other_ends (hr.mono (by decide)) iR.g cz.m cz.F.kp cz.b .nil bT (af (dA  (pvl 0 oE) rfl) (af (pvl 1 qQ) aj)) (hdb:=iR.d)) aj) (hn:=gr.n) (hdb:=gr.d))))),?_⟩;rw [show L2.start ["web","a"] [V.ref p,V.int a]=[some (V.ref p),some (V.int a)] from rfl];walk_at "rd";refine ⟨p,t,m,ps,rs,a,rfl,W,fun a0 a1=>?_,e⟩;have hlen:(rs.length:Int)=m - 1:=W.go.len;have m24:=W.go.m24;refine ⟨T.Web,dx,_,ob,T.iQ,T.n_roads,_,rR m t,t,ps,rs,a,rfl,SqT.of W.tu,W.ro,by omega,fun l1 H1 n1 s1 e1=>?_⟩;refine ⟨l1,rfl,cy rs a,SqL.of e1,by have:=Gw rs a;omega,fun l2 zs n2 pz sz=>?_⟩;rw [SK W.go a0 a1 pz sz];exact k l2 _ a0 a1 (s1.free n2) (s1.trans (Same.new _ n2)) ah
def Bk (T:Txt K mg):Sp:=fun vs H Q _=>∃ (p q t:Addr) (m:Int) (ps:List Addr) (rs:List Road) (s:Stp),vs=[.ref p,.ref q]/\WebAt T.Web H p m t ps rs/\H q=some (.tup (vSt s))/\∀ H',Same H H'->Q (.bl (jA m rs s)) H'
abbrev du:Stmt:=top 36
theorem Kx:FnScope ["web","step"] ["web","step"] (aa du):=FnScope.of (by kernel_rfl)
theorem tj:NmL (aa du) "web":=.of (by kernel_rfl)
theorem iy:NmL (aa du) "step":=.of (by kernel_rfl)
theorem mi:NmG (aa du) "is_place":=.of (by kernel_rfl)
theorem kN:NmG (aa du) "neighbours":=.of (by kernel_rfl)
theorem K3 (T:Txt K mg) (hq:aV (CXe P w)) {f:Addr} {fd:FuncData} (D:Df K mg "is_step" du ["web","step"] f fd) {cK:Addr} {eC:FuncData} (bq:Df K mg "is_place" c6 ["many","number"] cK eC) (G_is_place:FnOk P w K mg base (CXe P w) 1 cK eC ["many","number"] (m3 T)) {eO:Addr} {vX:FuncData} (fY:Df K mg "neighbours" bW ["web","a"] eO vX) (G_neighbours:FnOk P w K mg base (CXe P w) 3 eO vX ["web","a"] (vO T)):FnOk P w K mg base (CXe P w) 4 f fd ["web","step"] (Bk T):=by
 refine D.F.okC Kx (fun vs H Q E h=>?_) (fun cdv A outer s H vs Q E hr h=>?_)
 . obtain ⟨p,q,t,m,ps,rs,s,rfl,_⟩:=h
   rfl
 . obtain ⟨p,q,t,m,ps,rs,s,rfl,W,hs,k⟩:=h;obtain ⟨dx,ob⟩:=W.ob;refine ⟨_,(al (aF (xh (aE G_is_place (hr.mono (by decide)) mi.g bq.m bq.F.kp bq.b .nil (bH hq) (af (dA  (pvl 0 tj) rfl) (af (au bo (pvl 1 iy) ag (fun _ _=>rfl)) aj)) (hdb:=mi.d)) (xh (o9 Oi (au bo (pvl 1 iy) ag (fun _ _=>rfl)) (aE G_neighbours (hr.mono (by decide)) kN.g fY.m fY.F.kp fY.b .nil (bH hq) (af (pvl 0 tj) (af (au bo (pvl 1 iy) ag (fun _ _=>rfl)) aj)) (hdb:=kN.d)) (by with_unfolding_all rfl)) (BG (o9 EI (au bo (pvl 1 iy) ag (fun _ _=>rfl)) ag (aD _))))))),?_⟩;rw [show L2.start ["web","step"] [V.ref p,V.ref q]=[some (V.ref p),some (V.ref q)] from rfl];walk_at "rd";refine ⟨T.Web,dx,_,ob,T.iQ,T.n_many,_,gP m t,ixT hs rfl ⟨m,s.1,rfl,?_⟩⟩;refine ⟨_,rfl,?_⟩;have kk:∀ H',Same H H'->Q (.bl (decide (0<=s.1) && decide (s.1<m) && decide (s.2.1∈mH m rs s.1) && decide (1<=s.2.2))) H':=k;by_cases c:(decide (0<=s.1) && decide (s.1<m))=true
   . rw [if_pos c];rw [c,Bool.true_and] at kk;have ar:0<=s.1/\s.1<m:=by
       rw [Bool.and_eq_true] at c;exact ⟨of_decide_eq_true c.1,of_decide_eq_true c.2⟩
     refine ixT hs rfl (ixT hs rfl ?_);refine ex6 p t m ps rs s.1 ?_;refine an4 rfl W (fun l H1 _ _ nl s1 el=>?_) (fun z=>absurd ar z);refine inL el ⟨_,rfl,?_⟩;by_cases d:s.2.1∈mH m rs s.1
     . rw [decide_eq_true d,Bool.true_and] at kk;rw [if_pos (by rw [decide_eq_true d];rfl)];exact ixT (s1 _ _ hs) rfl ⟨_,rfl,kk H1 s1⟩
     . rw [decide_eq_false d,Bool.false_and] at kk;rw [if_neg (by rw [decide_eq_false d];decide)];exact kk H1 s1
   . rw [if_neg c];rw [show (decide (0<=s.1) && decide (s.1<m))=false by simpa using c,Bool.false_and,Bool.false_and] at kk;exact kk H (Same.refl _)
def tK (T:Txt K mg):Sp:=fun vs H Q _=>∃ (p a q t:Addr) (m:Int) (ps:List Addr) (rs:List Road) (xs:List Int) (s:Stp),vs=[.ref p,.ref a,.ref q]/\WebAt T.Web H p m t ps rs/\SqT K H a (xs.map V.int)/\(xs.length:Int)=m/\H q=some (.tup (vSt s))/\∀ H',Same H H'->Q (.bl (cm m rs xs s)) H'
abbrev bK:Stmt:=top 35
theorem Cj:FnScope ["web","laying","step"] ["web","laying","step"] (aa bK):=FnScope.of (by kernel_rfl)
theorem nB:NmL (aa bK) "web":=.of (by kernel_rfl)
theorem sX:NmL (aa bK) "laying":=.of (by kernel_rfl)
theorem im:NmL (aa bK) "step":=.of (by kernel_rfl)
theorem jV:NmG (aa bK) "is_step":=.of (by kernel_rfl)
theorem lW:NmG (aa bK) "taken":=.of (by kernel_rfl)
theorem CY (T:Txt K mg) (hq:aV (CXe P w)) {f:Addr} {fd:FuncData} (D:Df K mg "can_be_done" bK ["web","laying","step"] f fd) {iZ:Addr} {Bo:FuncData} (kZ:Df K mg "is_step" du ["web","step"] iZ Bo) (G_is_step:FnOk P w K mg base (CXe P w) 4 iZ Bo ["web","step"] (Bk T)) {gZ:Addr} {qt:FuncData} (gb:Df K mg "taken" fc ["web","step"] gZ qt) (G_taken:FnOk P w K mg base (CXe P w) 4 gZ qt ["web","step"] (AR T)):FnOk P w K mg base (CXe P w) 5 f fd ["web","laying","step"] (tK T):=by
 refine D.F.okC Cj (fun vs H Q E h=>?_) (fun cdv A outer s H vs Q E hr h=>?_)
 . obtain ⟨p,a,q,t,m,ps,rs,xs,s,rfl,_⟩:=h
   rfl
 . obtain ⟨p,a,q,t,m,ps,rs,xs,s,rfl,W,ha,xl,hs,k⟩:=h;refine ⟨_,(al (aF (xh (aE G_is_step (hr.mono (by decide)) jV.g kZ.m kZ.F.kp kZ.b .nil (bH hq) (af (pvl 0 nB) (af (pvl 2 im) aj)) (hdb:=jV.d)) (BG (o9 EI (au bo (pvl 1 sX) (au bo (pvl 2 im) ag (fun _ _=>rfl)) (fun _ _=>rfl)) (aE G_taken (hr.mono (by decide)) lW.g gb.m gb.F.kp gb.b .nil (bH hq) (af (pvl 0 nB) (af (pvl 2 im) aj)) (hdb:=lW.d)) (aD _)))))),?_⟩;rw [show L2.start ["web","laying","step"] [V.ref p,V.ref a,V.ref q]=[some (V.ref p),some (V.ref a),some (V.ref q)] from rfl];walk_at "rd";refine ex7 p q t m ps rs s ?_;refine an4 rfl W hs (fun H1 s1=>⟨_,rfl,?_⟩);by_cases c:jA m rs s=true
   . rw [if_pos c];have ar:=(qp c).1;refine ixT (s1 _ _ hs) rfl (UD (Same.tup s1 ha) (atG ar.1 (by omega)) ?_);refine ex7 p q t m ps rs s ?_;refine an5 rfl (W.same s1) (s1 _ _ hs) c ?_;have:=k H1 s1;unfold cm at this;rw [c,Bool.true_and] at this;exact ⟨_,rfl,_,rfl,this⟩
   . rw [if_neg c];have:=k H1 s1;unfold cm at this;rw [show jA m rs s=false by simpa using c,Bool.false_and] at this;exact this
def Bi (T:Txt K mg):Sp:=fun vs H Q E=>∃ (p a b t:Addr) (c d:Bool) (m:Int) (ps qs:List Addr) (rs:List Road) (xs:List Int) (ss:List Stp),vs=[.ref p,.ref a,.ref b]/\WebAt T.Web H p m t ps rs/\AtX c H a (xs.map V.int)/\xs.length<=1000/\AtX d H b (qs.map V.ref)/\StepsAt H qs ss/\ss.length<=1000 /\
 (aI m xs=true->Nt m rs xs ss->∀ l ts H',H l=none->Same H H'->H' l=some (.lst (ts.map V.ref))->M8 H' ts (q8 rs xs ss)->Q (.ref l) H') /\
 (aI m xs=true->∀ i dx H',FirstBad m rs xs ss i->Same H H'->H' dx=some (.xd [("at",.int (i:Int))])->E (.ref T.BadStep) (some dx) H')/\(aI m xs=false->∀ H',Same H H'->E (.ref T.BadLaying) none H')
abbrev bN:Stmt:=top 34
theorem oV:FnScope ["web","laying","steps","passed","at","step"] ["web","laying","steps"] (aa bN):=FnScope.of (by kernel_rfl)
theorem ml:NmL (aa bN) "web":=.of (by kernel_rfl)
theorem zb:NmL (aa bN) "laying":=.of (by kernel_rfl)
theorem Ax:NmL (aa bN) "steps":=.of (by kernel_rfl)
theorem d5:NmL (aa bN) "passed":=.of (by kernel_rfl)
theorem vT:NmL (aa bN) "at":=.of (by kernel_rfl)
theorem lY:NmL (aa bN) "step":=.of (by kernel_rfl)
theorem lh:NmG (aa bN) "laying_of":=.of (by kernel_rfl)
theorem uF:NmG (aa bN) "enumerate":=.of (by kernel_rfl)
theorem jT:NmG (aa bN) "can_be_done":=.of (by kernel_rfl)
theorem nF:NmG (aa bN) "BadStep":=.of (by kernel_rfl)
theorem oJ:NmG (aa bN) "behind":=.of (by kernel_rfl)
theorem My (T:Txt K mg) (hq:aV (CXe P w)) {f:Addr} {fd:FuncData} (D:Df K mg "layings" bN ["web","laying","steps"] f fd) {f_BadStep___init__:Addr} {ii:FuncData} (F_BadStep___init__:Fun K "__init__" "BadStep.__init__" bu f_BadStep___init__ ii) (b_BadStep:Binds K ii ["self","at"] []) (qO:y8 K T.BadStep f_BadStep___init__) (G_BadStep_init:FnOk P w K mg base (CXe P w) 1 f_BadStep___init__ ii ["self","at"] (me T)) {kG:Addr} {Dc:FuncData} (mK:Df K mg "behind" c8 ["web","laying","step"] kG Dc) (G_behind:FnOk P w K mg base (CXe P w) 5 kG Dc ["web","laying","step"] (DL T)) {dY:Addr} {tM:FuncData} (eZ:Df K mg "can_be_done" bK ["web","laying","step"] dY tM) (G_can_be_done:FnOk P w K mg base (CXe P w) 5 dY tM ["web","laying","step"] (tK T)) {df:Addr} {iU:FuncData} (b5:Df K mg "laying_of" b4 ["web","numbers"] df iU) (G_laying_of:FnOk P w K mg base (CXe P w) 2 df iU ["web","numbers"] (qf T)):FnOk P w K mg base (CXe P w) 6 f fd ["web","laying","steps"] (Bi T):=by
 refine D.F.okX oV (fun vs H Q E h=>?_) (fun cdv A outer s H vs Q E hr h=>?_)
 . obtain ⟨p,a,b,t,c,d,m,ps,qs,rs,xs,ss,rfl,_⟩:=h
   rfl
 . obtain ⟨p,a,b,t,c,d,m,ps,qs,rs,xs,ss,rfl,W,ha,x1,hb,hs,sl,k,kb,kl⟩:=h;have g:=W.go;have m24:=g.m24;refine ⟨_,(ak (aJ (i:=3) oV.nd rfl (Or.inl d5.l) (bE (af (aE G_laying_of (hr.mono (by decide)) lh.g b5.m b5.F.kp b5.b .nil bT (af (pvl 0 ml) (af (pvl 1 zb) aj)) (hdb:=lh.d)) aj))) (ak (je PassesOwn.leaving rfl (R6 d uF.g T.enumerate (pvl 2 Ax)) (jW (n:=2) rfl (aZ (aP (i:=4) oV.nd rfl (Or.inl vT.l)) (aZ (aP (i:=5) oV.nd rfl (Or.inl lY.l)) hG))) (ak (aR (gn (gh (aE G_can_be_done (hr.mono (by decide)) jT.g eZ.m eZ.F.kp eZ.b .nil bT (af (pvl 0 ml) (af (au av (pvl 3 d5) (fX d6 ag) (fun _ _=>rfl)) (af (pvl 5 lY) aj))) (hdb:=jT.d)))) (al (Nn qO G_BadStep_init hq (hr.mono (by decide)) b_BadStep rfl rfl S4 nF.g T.yk (af (pvl 4 vT) aj) (hdb:=nF.d))) aB) (al (bP (lN PySem.F.plainAttrs_list PySem.F.slot_list_append PySem.F.type_list_append ft (pvl 3 d5) (af (aE G_behind (hr.mono (by decide)) oJ.g mK.m mK.F.kp mK.b .nil bT (af (pvl 0 ml) (af (au av (pvl 3 d5) (fX d6 ag) (fun _ _=>rfl)) (af (pvl 5 lY) aj))) (hdb:=oJ.d)) aj)))))) (al (aF (pvl 3 d5))))),?_⟩;rw [show L2.start ["web","laying","steps","passed","at","step"] [V.ref p,V.ref a,V.ref b]=[some (V.ref p),some (V.ref a),some (V.ref b),none,none,none] from rfl];walk_at "rd";refine ex8 p a t c m ps rs xs ?_;refine an6 rfl W ha.sq x1 (fun fi t0 H1 s1 e1 _=>?_) kl;have xl:(xs.length:Int)=m:=by
     unfold aI at fi;rw [Bool.and_eq_true] at fi;exact of_decide_eq_true fi.1
   have e1':H1 t0=some (.tup (xs.map V.int)):=by
     rcases e1 with e|⟨hc,rfl⟩
     . exact e
     . subst hc;exact s1 _ _ ha
   refine ⟨ax (by simp),fun l nl=>?_⟩;have s2:=Same.new (.lst [V.ref t0]) nl;have nl0:=s1.free nl;have s12:=s1.trans s2;have e2:=s2 _ _ e1';have el:upd H1 l (.lst [V.ref t0]) l=some (.lst [V.ref t0]):=ah;generalize upd H1 l (.lst [V.ref t0])=H2 at s2 s12 e2 el ⊢;have ql:qs.length=ss.length:=Paired.length hs;have hbX:∀ {H3:Hp},Same H H3->SqX K d H3 b (qs.map V.ref):=fun {H3} s3=>AtX.sq (K:=K) (show AtX d H3 b (qs.map V.ref) from s3 _ _ hb);refine ⟨⟨_,hbX s12⟩,?_⟩;refine Po (K:=K) (c:=d) (xs:=qs.map V.ref) (fun i σ H3=>Same H H3/\i<=ss.length/\(∀ j s,j<i->ss[j]?=some s->cm m rs (jc rs xs ss j) s=true)/\∃ (ts:List Addr) (v4 v5:Option V),H3 l=some (.lst (ts.map V.ref))/\M8 H3 ts ((q8 rs xs ss).take (i+1))/\σ=[some (V.ref p),some (V.ref a),some (V.ref b),some (V.ref l),v4,v5]) ⟨s12,Nat.zero_le _,fun j s h=>absurd h (Nat.not_lt_zero _),[t0],_,_,el,?_,rfl⟩ (fun i σ H3 z=>hbX z.1) ?_ ?_
   . have h0:=rb (rs:=rs) (xs:=xs) (ss:=ss) (i:=0) (Nat.zero_le _);rw [Ow] at h0;rw [List.take_succ,h0,List.take_zero];exact .cons e2 .nil
   . rintro i x σ H3 q N hN hx ⟨s3,il,bf,ts,v4,v5,e3,ta,rfl⟩ nq;obtain ⟨qx,s,rfl,h1,h2,h3⟩:=(StepsAt.same s3 hs).get hx;have il2:i<ss.length:=(List.getElem?_eq_some_iff.mp h2).1;have s4:=Same.new (.tup [V.int (i:Int),V.ref qx]) nq;have tl:ts.length=((q8 rs xs ss).take (i+1)).length:=Paired.length ta;rw [List.length_take,yR] at tl;have stl:=PJ rs xs ss i;obtain ⟨tq,htq⟩:∃ tq,ts[i]?=some tq:=⟨_,List.getElem?_eq_getElem (by omega)⟩;obtain ⟨row,hr1,hr2⟩:=FJ ta htq;rw [List.getElem?_take_of_lt (by omega),rb il] at hr1;cases hr1;have elast:∃ t',ts=t'++[tq]:=by
       refine ⟨ts.take i,?_⟩;have:=List.take_succ (l:=ts) (i:=i);rw [htq,List.take_of_length_le (by omega)] at this;exact this
     obtain ⟨t',et'⟩:=elast;have e3':H3 l=some (.lst (t'.map V.ref++[V.ref tq])):=(by rw [e3,et',List.map_append];rfl);walk_at "rd";refine ⟨_,SqT.of ah,rfl,_,_,rfl,_,_,rfl,rfl,?_⟩;refine ixL (s4 _ _ e3') (Ar _ _) ?_;refine ⟨p,tq,qx,t,m,ps,rs,jc rs xs ss i,s,rfl,W.same (s3.trans s4),SqT.of (s4 _ _ hr2),by omega,s4 _ _ h3,fun H5 s5=>⟨_,rfl,?_⟩⟩;have s35:=s4.trans s5;cases cd:cm m rs (jc rs xs ss i) s
     . rw [if_pos rfl];refine ⟨V.int (i:Int),rfl,ax (by simp),fun ea ne=>⟨ea,f_BadStep___init__,_,rfl,ah,qO,fun dx nd nde=>⟨rfl,some dx,?_,?_⟩⟩⟩
       . rw [aq (Ne.symm nde),ah]
       . exact kb fi i dx _ ⟨bf,s,h2,cd⟩ ((s3.trans s35).trans (Sa ne nd nde)) (by rw [wX nde,ah])
     rw [if_neg (by decide)];have is:jA m rs s=true:=by
       unfold cm at cd;rw [Bool.and_eq_true] at cd;exact cd.1
     refine ⟨tyL (s35 _ _ e3'),ixL (s35 _ _ e3') (Ar _ _) ?_⟩;refine ⟨p,tq,qx,t,m,ps,rs,jc rs xs ss i,s,rfl,W.same (s3.trans s35),SqT.of (s35 _ _ hr2),by omega,s35 _ _ h3,is,fun tn H6 nn s6 en=>?_⟩;have s36:=s35.trans s6;have ntl:tn≠l:=fun z=>by rw [z,s35 _ _ e3'] at nn;cases nn
     refine AG (s36 _ _ e3) (ir (by rw [List.length_map];omega)) (hN _ _ ⟨(s3.trans s36).put nl0 _,il2,fun j s' hj hs'=>?_,ts++[tn],_,_,by rw [ah,List.map_append];rfl,?_,rfl⟩)
     . by_cases z:j=i
       . subst z;rw [h2] at hs';cases hs';exact cd
       . exact bf j s' (by omega) hs'
     rw [List.take_succ,rb (by omega),NO h2];exact IX (by rw [aq ntl];exact en) (Paired.imp' (fun a b h=>by rw [aq (cY (s36 _ _ h) (s36 _ _ e3) (by intro z;cases z))];exact s36 _ _ h) ta)
   . rintro σ H3 ⟨s3,il,bf,ts,v4,v5,e3,ta,rfl⟩;rw [List.length_map,ql,List.take_of_length_le (by rw [yR];exact Nat.le_refl _)] at ta;walk_at "rd";refine k fi (fun j s hs=>bf j s ?_ hs) l ts H3 nl0 s3 e3 ta;rw [List.length_map,ql];exact (List.getElem?_eq_some_iff.mp hs).1
def Di (T:Txt K mg):Sp:=fun vs H Q E=>∃ (p a b t:Addr) (c d:Bool) (m:Int) (ps qs:List Addr) (rs:List Road) (xs:List Int) (ss:List Stp),vs=[.ref p,.ref a,.ref b]/\WebAt T.Web H p m t ps rs/\AtX c H a (xs.map V.int)/\xs.length<=1000/\AtX d H b (qs.map V.ref)/\StepsAt H qs ss/\ss.length<=1000 /\
 (aI m xs=true->Nt m rs xs ss->∀ l H',Same H H'->H' l=some (.tup ((jc rs xs ss ss.length).map V.int))->Q (.ref l) H') /\
 (aI m xs=true->∀ i dx H',FirstBad m rs xs ss i->Same H H'->H' dx=some (.xd [("at",.int (i:Int))])->E (.ref T.BadStep) (some dx) H')/\(aI m xs=false->∀ H',Same H H'->E (.ref T.BadLaying) none H')
abbrev d4:Stmt:=top 33
theorem OD:FnScope ["web","laying","steps"] ["web","laying","steps"] (aa d4):=FnScope.of (by kernel_rfl)
theorem D7:NmL (aa d4) "web":=.of (by kernel_rfl)
theorem zP:NmL (aa d4) "laying":=.of (by kernel_rfl)
theorem A5:NmL (aa d4) "steps":=.of (by kernel_rfl)
theorem oG:NmG (aa d4) "layings":=.of (by kernel_rfl)
theorem Ng (T:Txt K mg) (hq:aV (CXe P w)) {f:Addr} {fd:FuncData} (D:Df K mg "walked" d4 ["web","laying","steps"] f fd) {jp:Addr} {A1:FuncData} (kQ:Df K mg "layings" bN ["web","laying","steps"] jp A1) (G_layings:FnOk P w K mg base (CXe P w) 6 jp A1 ["web","laying","steps"] (Bi T)):FnOk P w K mg base (CXe P w) 7 f fd ["web","laying","steps"] (Di T):=by
 refine D.F.okX OD (fun vs H Q E h=>?_) (fun cdv A outer s H vs Q E hr h=>?_)
 . obtain ⟨p,a,b,t,c,d,m,ps,qs,rs,xs,ss,rfl,_⟩:=h
   rfl
 . obtain ⟨p,a,b,t,c,d,m,ps,qs,rs,xs,ss,rfl,W,ha,x1,hb,hs,sl,k,kb,kl⟩:=h;refine ⟨_,(al (aF (au av (aE G_layings (hr.mono (by decide)) oG.g kQ.m kQ.F.kp kQ.b .nil bT (af (pvl 0 D7) (af (pvl 1 zP) (af (pvl 2 A5) aj))) (hdb:=oG.d)) (fX d6 ag) (fun _ _=>rfl)))),?_⟩;rw [show L2.start ["web","laying","steps"] [V.ref p,V.ref a,V.ref b]=[some (V.ref p),some (V.ref a),some (V.ref b)] from rfl];walk_at "rd";refine UC p a b t c d m ps qs rs xs ss ?_;refine ⟨rfl,W,ha,x1,hb,hs,sl,fun fi ca l ts H1 nl s1 el ta=>?_,kb,kl⟩;have tl:ts.length=(q8 rs xs ss).length:=Paired.length ta;rw [yR] at tl;obtain ⟨tq,htq⟩:∃ tq,ts[ss.length]?=some tq:=⟨_,List.getElem?_eq_getElem (by omega)⟩;obtain ⟨row,hr1,hr2⟩:=FJ ta htq;rw [rb (Nat.le_refl _)] at hr1;cases hr1;have elast:ts=ts.take ss.length++[tq]:=by
     have:=List.take_succ (l:=ts) (i:=ss.length);rw [htq,List.take_of_length_le (by omega)] at this;exact this
   rw [elast,List.map_append] at el;exact ixL el (Ar _ _) (k fi ca tq H1 s1 hr2)
def xT (T:Txt K mg):Sp:=fun vs H Q E=>∃ (o wb pl t:Addr) (m:Int) (ps:List Addr) (rs:List Road) (sts:List (List Int × List Int)) (s:List Int × List Int) (a b n:Int),vs=[.ref o,.int a,.int b,.int n]/\DeskAt T.Web T.Desk H o wb pl m t ps rs (sts++[s])/\sts.length<=500/\aI m s.1=true /\
 (cm m rs s.1 (a,b,n)=true->∀ H',DeskAt T.Web T.Desk H' o wb pl m t ps rs (sts++[s]++[(gH rs s.1 (a,b,n),s.2)])->Kpt pl H H'->Q .non H')/\(cm m rs s.1 (a,b,n)=false->∀ dx H',Same H H'->H' dx=some (.xd [("at",.int 0)])->E (.ref T.BadStep) (some dx) H')
abbrev cF:Stmt:=gm (top 42) 3
theorem Fi:FnScope ["self","a","b","times"] ["self","a","b","times"] (aa cF):=FnScope.of (by kernel_rfl)
theorem fU:NmL (aa cF) "self":=.of (by kernel_rfl)
theorem CQ:NmL (aa cF) "a":=.of (by kernel_rfl)
theorem CW:NmL (aa cF) "b":=.of (by kernel_rfl)
theorem wT:NmL (aa cF) "times":=.of (by kernel_rfl)
theorem md:NmG (aa cF) "walked":=.of (by kernel_rfl)
theorem GN (T:Txt K mg) (hq:aV (CXe P w)) {f:Addr} {fd:FuncData} (F:Fun K "step" "Desk.step" cF f fd) {f_Desk_keep:Addr} {cC:FuncData} (F_Desk_keep:Fun K "keep" "Desk.keep" cD f_Desk_keep cC) (b_Desk_keep:Binds K cC ["self","laying","wish"] []) (dG:Meth K T.Desk "keep" f_Desk_keep) (G_Desk_keep:FnOk P w K mg base (CXe P w) 1 f_Desk_keep cC ["self","laying","wish"] (lS T)) {f_Desk_laying:Addr} {bd:FuncData} (F_Desk_laying:Fun K "laying" "Desk.laying" ce f_Desk_laying bd) (b_Desk_laying:Binds K bd ["self"] []) (bU:Meth K T.Desk "laying" f_Desk_laying) (G_Desk_laying:FnOk P w K mg base (CXe P w) 1 f_Desk_laying bd ["self"] (gc T)) {f_Desk_wish:Addr} {bz:FuncData} (F_Desk_wish:Fun K "wish" "Desk.wish" cW f_Desk_wish bz) (b_Desk_wish:Binds K bz ["self"] []) (cG:Meth K T.Desk "wish" f_Desk_wish) (G_Desk_wish:FnOk P w K mg base (CXe P w) 1 f_Desk_wish bz ["self"] (iG T)) {kq:Addr} {DG:FuncData} (mq:Df K mg "walked" d4 ["web","laying","steps"] kq DG) (G_walked:FnOk P w K mg base (CXe P w) 7 kq DG ["web","laying","steps"] (Di T)):FnOk P w K mg base (CXe P w) 8 f fd ["self","a","b","times"] (xT T):=by
 refine F.okX Fi (fun vs H Q E h=>?_) (fun cdv A outer s H vs Q E hr h=>?_)
 . obtain ⟨o,wb,pl,t,m,ps,rs,sts,s,a,b,n,rfl,_⟩:=h
   rfl
 . obtain ⟨o,wb,pl,t,m,ps,rs,sts,s,a,b,n,rfl,O,sl,fi,k,e'⟩:=h;obtain ⟨dx,ob⟩:=O.ob;have m24:=O.web.go.m24;refine ⟨_,(al (bP (pb (pvl 0 fU) T.bp dG G_Desk_keep (hr.mono (by decide)) b_Desk_keep .nil bT (af (aE G_walked (hr.mono (by decide)) md.g mq.m mq.F.kp mq.b .nil bT (af (dA  (pvl 0 fU) rfl) (af (eT (pvl 0 fU) T.bp bU G_Desk_laying (hr.mono (by decide)) b_Desk_laying .nil bT) (af (bE (af (dM (af (pvl 1 CQ) (af (pvl 2 CW) (af (pvl 3 wT) aj)))) aj)) aj))) (hdb:=md.d)) (af (eT (pvl 0 fU) T.bp cG G_Desk_wish (hr.mono (by decide)) b_Desk_wish .nil bT) aj))))),?_⟩;rw [show L2.start ["self","a","b","times"] [V.ref o,V.int a,V.int b,V.int n]=[some (V.ref o),some (V.int a),some (V.int b),some (V.int n)] from rfl];walk_at "rd";refine O.meth ?_;refine O.wb_ T.bp T.n_web ?_;refine O.meth ⟨o,wb,pl,t,m,ps,rs,sts,s,rfl,O,fun la hla=>⟨ax (by simp),fun q1 n1=>⟨ax (by simp),fun q2 n2=>?_⟩⟩⟩;have s1:=Same.new (.tup [V.int a,V.int b,V.int n]) n1;have s2:=Same.new (.lst [V.ref q1]) n2;have e1:=s2 _ _ (ah (H:=H) (a:=q1) (o:=.tup [V.int a,V.int b,V.int n]));have e2:upd (upd H q1 (.tup [V.int a,V.int b,V.int n])) q2 (.lst [V.ref q1]) q2=some (.lst [V.ref q1]):=ah;have s12:=s1.trans s2;generalize upd (upd H q1 (.tup [V.int a,V.int b,V.int n])) q2 (.lst [V.ref q1])=H2 at e1 e2 s12 ⊢;have O2:=O.same s12;refine ⟨wb,la,q2,t,false,true,m,ps,[q1],rs,s.1,[(a,b,n)],rfl,O2.web,s12 _ _ hla,by have:=dI fi;omega,e2,.cons e1 .nil,by simp,fun _ ca l3 H3 s3 e3=>?_,fun _ i dx' H3 fb s3 e3=>?_,fun z=>by rw [fi] at z;cases z⟩
   rotate_left
   . obtain ⟨rfl,cb⟩:=SB fb;exact e' cb dx' H3 (s12.trans s3) e3
   have can:cm m rs s.1 (a,b,n)=true:=ca 0 _ rfl;have O3:=O2.same s3;refine O3.meth ⟨o,wb,pl,t,m,ps,rs,sts,s,rfl,O3,fun lb hlb=>?_⟩;refine ⟨o,wb,pl,t,l3,lb,m,ps,rs,_,(_,_),rfl,O3,e3,hlb,by rw [List.length_append];simp;omega,fun H4 O4 k4=>k can H4 O4 ?_⟩;exact fun c y h n=>k4 c y (s3 _ _ (s12 _ _ h)) n
def AW (T:Txt K mg):Sp:=fun vs H Q E=>∃ (p a t:Addr) (m:Int) (ps:List Addr) (rs:List Road) (xs:List Int),vs=[.ref p,.ref a]/\WebAt T.Web H p m t ps rs/\SqL K H a (xs.map V.int)/\xs.length<=1000 /\
 (aI m xs=true->∀ l H',Same H H'->H' l=some (.tup (xs.map V.int))->Q (.ref l) H')/\(aI m xs=false->∀ H',Same H H'->E (.ref T.BadWish) none H')
abbrev c9:Stmt:=top 40
theorem Mx:FnScope ["web","numbers"] ["web","numbers"] (aa c9):=FnScope.of (by kernel_rfl)
theorem Ch:NmL (aa c9) "web":=.of (by kernel_rfl)
theorem nK:NmL (aa c9) "numbers":=.of (by kernel_rfl)
theorem lR:NmG (aa c9) "is_filled":=.of (by kernel_rfl)
theorem nC:NmG (aa c9) "BadWish":=.of (by kernel_rfl)
theorem kI:NmG (aa c9) "tuple":=.of (by kernel_rfl)
theorem Kc (T:Txt K mg) (hq:aV (CXe P w)) {f:Addr} {fd:FuncData} (D:Df K mg "wish_of" c9 ["web","numbers"] f fd) {db:Addr} {jo:FuncData} (cT:Df K mg "is_filled" cg ["web","numbers"] db jo) (G_is_filled:FnOk P w K mg base (CXe P w) 1 db jo ["web","numbers"] (qi T)):FnOk P w K mg base (CXe P w) 2 f fd ["web","numbers"] (AW T):=by
 refine D.F.okX Mx (fun vs H Q E h=>?_) (fun cdv A outer s H vs Q E hr h=>?_)
 . obtain ⟨p,a,t,m,ps,rs,xs,rfl,_⟩:=h
   rfl
 . obtain ⟨p,a,t,m,ps,rs,xs,rfl,W,ha,hz,k,e⟩:=h;refine ⟨_,(ak (aR (gn (gh (aE G_is_filled (hr.mono (by decide)) lR.g cT.m cT.F.kp cT.b .nil bT (af (pvl 0 Ch) (af (pvl 1 nK) aj)) (hdb:=lR.d)))) (al (pQ T.OS rfl tP nC.g T.Dg (af aN aj) (hdb:=nC.d))) aB) (al (aF (cQ d0 kI.g T.tuple jk (af (pvl 1 nK) aj) (hn:=kI.n) (hdb:=kI.d))))),?_⟩;rw [show L2.start ["web","numbers"] [V.ref p,V.ref a]=[some (V.ref p),some (V.ref a)] from rfl];walk_at "rd";refine ⟨p,a,t,true,m,ps,rs,xs,rfl,W,ha,hz,fun H1 s1=>⟨_,rfl,?_⟩⟩;by_cases z:aI m xs=false
   . rw [if_pos z];exact ⟨by decide,e z H1 s1⟩
   . rw [if_neg z];have z':aI m xs=true:=(by simpa using z);exact ⟨_,.inl ⟨Same.seq s1 ha,fun l nl=>k z' l _ (s1.trans (Same.new _ nl)) ah⟩⟩
def yp (T:Txt K mg):Sp:=fun vs H Q E=>∃ (o wb pl t:Addr) (m:Int) (ps:List Addr) (rs:List Road) (sts:List (List Int × List Int)) (s:List Int × List Int) (v n:Int),vs=[.ref o,.int v,.int n]/\DeskAt T.Web T.Desk H o wb pl m t ps rs (sts++[s])/\sts.length<=500/\(s.2.length:Int)=m/\(∀ y∈s.2,0<=y) /\
 ((0<=v/\v<m)->0<=n->∀ H',DeskAt T.Web T.Desk H' o wb pl m t ps rs (sts++[s]++[(s.1,s.2.set v.toNat n)])->Kpt pl H H'->Q .non H')/\(¬ (0<=v/\v<m)->∀ H',Same H H'->E (.ref T.NoPlace) none H')/\(0<=v->v<m->n<0->∀ H',Same H H'->E (.ref T.BadWish) none H')
abbrev b3:Stmt:=gm (top 42) 2
theorem xr:FnScope ["self","place","many","wanted"] ["self","place","many"] (aa b3):=FnScope.of (by kernel_rfl)
theorem d8:NmL (aa b3) "self":=.of (by kernel_rfl)
theorem m6:NmL (aa b3) "place":=.of (by kernel_rfl)
theorem zf:NmL (aa b3) "many":=.of (by kernel_rfl)
theorem h9:NmL (aa b3) "wanted":=.of (by kernel_rfl)
theorem iP:NmG (aa b3) "check_place":=.of (by kernel_rfl)
theorem jJ:NmG (aa b3) "list":=.of (by kernel_rfl)
theorem lH:NmG (aa b3) "wish_of":=.of (by kernel_rfl)
theorem Fm (T:Txt K mg) (hq:aV (CXe P w)) {f:Addr} {fd:FuncData} (F:Fun K "want" "Desk.want" b3 f fd) {f_Desk_keep:Addr} {cC:FuncData} (F_Desk_keep:Fun K "keep" "Desk.keep" cD f_Desk_keep cC) (b_Desk_keep:Binds K cC ["self","laying","wish"] []) (dG:Meth K T.Desk "keep" f_Desk_keep) (G_Desk_keep:FnOk P w K mg base (CXe P w) 1 f_Desk_keep cC ["self","laying","wish"] (lS T)) {f_Desk_laying:Addr} {bd:FuncData} (F_Desk_laying:Fun K "laying" "Desk.laying" ce f_Desk_laying bd) (b_Desk_laying:Binds K bd ["self"] []) (bU:Meth K T.Desk "laying" f_Desk_laying) (G_Desk_laying:FnOk P w K mg base (CXe P w) 1 f_Desk_laying bd ["self"] (gc T)) {f_Desk_wish:Addr} {bz:FuncData} (F_Desk_wish:Fun K "wish" "Desk.wish" cW f_Desk_wish bz) (b_Desk_wish:Binds K bz ["self"] []) (cG:Meth K T.Desk "wish" f_Desk_wish) (G_Desk_wish:FnOk P w K mg base (CXe P w) 1 f_Desk_wish bz ["self"] (iG T)) {be:Addr} {bZ:FuncData} (aH:Df K mg "check_place" bj ["web","number"] be bZ) (G_check_place:FnOk P w K mg base (CXe P w) 2 be bZ ["web","number"] (fZ T)) {iK:Addr} {B7:FuncData} (kW:Df K mg "wish_of" c9 ["web","numbers"] iK B7) (G_wish_of:FnOk P w K mg base (CXe P w) 2 iK B7 ["web","numbers"] (AW T)):FnOk P w K mg base (CXe P w) 3 f fd ["self","place","many"] (yp T):=by
 refine F.okX xr (fun vs H Q E h=>?_) (fun cdv A outer s H vs Q E hr h=>?_)
 . obtain ⟨o,wb,pl,t,m,ps,rs,sts,s,v,n,rfl,_⟩:=h
   rfl
 . obtain ⟨o,wb,pl,t,m,ps,rs,sts,s,v,n,rfl,O,sl,xl,x0,k,e1',e2'⟩:=h;obtain ⟨dx,ob⟩:=O.ob;have m24:=O.web.go.m24;refine ⟨_,(ak (bP (aE G_check_place (hr.mono (by decide)) iP.g aH.m aH.F.kp aH.b .nil bT (af (dA  (pvl 0 d8) rfl) (af (pvl 1 m6) aj)) (hdb:=iP.d))) (ak (aJ (i:=3) xr.nd rfl (Or.inl h9.l) (cQ jb jJ.g T.list tV (af (eT (pvl 0 d8) T.bp cG G_Desk_wish (hr.mono (by decide)) b_Desk_wish .nil bT) aj) (hn:=jJ.n) (hdb:=jJ.d))) (ak (iL (pvl 2 zf) (xQ (pvl 3 h9) (pvl 1 m6) iY)) (al (bP (pb (pvl 0 d8) T.bp dG G_Desk_keep (hr.mono (by decide)) b_Desk_keep .nil bT (af (eT (pvl 0 d8) T.bp bU G_Desk_laying (hr.mono (by decide)) b_Desk_laying .nil bT) (af (aE G_wish_of (hr.mono (by decide)) lH.g kW.m kW.F.kp kW.b .nil bT (af (dA  (pvl 0 d8) rfl) (af (pvl 3 h9) aj)) (hdb:=lH.d)) aj)))))))),?_⟩;rw [show L2.start ["self","place","many","wanted"] [V.ref o,V.int v,V.int n]=[some (V.ref o),some (V.int v),some (V.int n),none] from rfl];walk_at "rd";refine ⟨T.Desk,dx,_,ob,T.bp,T.n_web,_,xz _ _,?_⟩;refine ⟨wb,t,m,ps,rs,v,rfl,O.web,fun v0 v1=>?_,fun z=>e1' z H (Same.refl _)⟩;have vr:0<=v/\v<m:=⟨v0,v1⟩;refine O.meth ⟨o,wb,pl,t,m,ps,rs,sts,s,rfl,O,fun lb hlb=>⟨lb,rfl,_,.inr (SqT.of hlb),fun l nl=>?_⟩⟩;refine wO ah vr.1 (by rw [List.length_map];omega) ?_;rw [<- List.map_set,hJ];have s1:=Same.new (.lst ((s.2.set v.toNat n).map V.int)) nl;have e1:upd H l (.lst ((s.2.set v.toNat n).map V.int)) l=some (.lst ((s.2.set v.toNat n).map V.int)):=ah;generalize upd H l (.lst ((s.2.set v.toNat n).map V.int))=H1 at s1 e1 ⊢;have O1:=O.same s1;have fi:aI m (s.2.set v.toNat n)=true->0<=n:=fun f=>kP f n (List.mem_iff_getElem?.mpr ⟨v.toNat,List.getElem?_set_self (by omega)⟩);have fo:aI m (s.2.set v.toNat n)=false->n<0:=fun f=>by
     refine Classical.byContradiction fun z=>?_;have:aI m (s.2.set v.toNat n)=true:=jm (by rw [List.length_set];exact xl) fun y hy=>by
       rcases List.mem_or_eq_of_mem_set hy with q|q
       . exact x0 y q
       . omega
     rw [f] at this;cases this
   refine O1.meth ?_;refine O1.meth ⟨o,wb,pl,t,m,ps,rs,sts,s,rfl,O1,fun la hla=>?_⟩;refine O1.wb_ T.bp T.n_web ?_;refine ⟨wb,l,t,m,ps,rs,_,rfl,O1.web,SqL.of e1,by rw [List.length_set];omega,fun f l2 H2 s2 e2=>?_,fun f H2 s2=>e2' v0 v1 (fo f) H2 (s1.trans s2)⟩;have O2:=O1.same s2;refine ⟨o,wb,pl,t,la,l2,m,ps,rs,_,(s.1,s.2.set v.toNat n),rfl,O2,s2 _ _ hla,e2,by rw [List.length_append];simp;omega,fun H4 O4 k4=>k vr (fi f) H4 O4 ?_⟩;exact fun c y h n=>k4 c y (s2 _ _ (s1 _ _ h)) n
def Dv (T:Txt K mg):Sp:=fun vs H Q E=>∃ (o wb pl t ln:Addr) (m:Int) (ps:List Addr) (rs:List Road) (sts:List (List Int × List Int)) (s:List Int × List Int) (D:De),vs=[.ref o,.str D.wd,.ref ln]/\DeskAt T.Web T.Desk H o wb pl m t ps rs (sts++[s])/\sts.length<=500/\aI m s.1=true/\aI m s.2=true/\H ln=some (.lst (D.ns.map V.int))/\
 (∀ s',bhe m rs s D=some s'->∀ H',DeskAt T.Web T.Desk H' o wb pl m t ps rs (sts++[s]++[s'])->Kpt pl H H'->Q .non H') /\
 (∀ ns,D=.back ns->sts≠[]->∀ H',DeskAt T.Web T.Desk H' o wb pl m t ps rs sts->Kpt pl H H'->Q .non H') /\
 (d3 m rs s sts.length D="place"->∀ H',Same H H'->E (.ref T.NoPlace) none H')/\(d3 m rs s sts.length D="laying"->∀ H',Same H H'->E (.ref T.BadLaying) none H')/\(d3 m rs s sts.length D="wish"->∀ H',Same H H'->E (.ref T.BadWish) none H') /\
 (d3 m rs s sts.length D="step"->∀ dx H',Same H H'->H' dx=some (.xd [("at",.int 0)])->E (.ref T.BadStep) (some dx) H')/\(d3 m rs s sts.length D="deed"->E (.ref T.NoDeed) none H)
abbrev eR:Stmt:=top 53
theorem NR:FnScope ["desk","deed","numbers"] ["desk","deed","numbers"] (aa eR):=FnScope.of (by kernel_rfl)
theorem jB:NmL (aa eR) "desk":=.of (by kernel_rfl)
theorem mQ:NmL (aa eR) "deed":=.of (by kernel_rfl)
theorem cM:NmL (aa eR) "numbers":=.of (by kernel_rfl)
theorem NM (T:Txt K mg) (hq:aV (CXe P w)) {f:Addr} {fd:FuncData} (D:Df K mg "_law_do" eR ["desk","deed","numbers"] f fd) {f_Desk_back:Addr} {pV:FuncData} (F_Desk_back:Fun K "back" "Desk.back" dH f_Desk_back pV) (b_Desk_back:Binds K pV ["self"] []) (rS:Meth K T.Desk "back" f_Desk_back) (G_Desk_back:FnOk P w K mg base (CXe P w) 3 f_Desk_back pV ["self"] (yJ T)) {f_Desk_put:Addr} {r6:FuncData} (F_Desk_put:Fun K "put" "Desk.put" cr f_Desk_put r6) (b_Desk_put:Binds K r6 ["self","place","many"] []) (vG:Meth K T.Desk "put" f_Desk_put) (G_Desk_put:FnOk P w K mg base (CXe P w) 5 f_Desk_put r6 ["self","place","many"] (zD T)) {f_Desk_step:Addr} {qz:FuncData} (F_Desk_step:Fun K "step" "Desk.step" cF f_Desk_step qz) (b_Desk_step:Binds K qz ["self","a","b","times"] []) (rN:Meth K T.Desk "step" f_Desk_step) (G_Desk_step:FnOk P w K mg base (CXe P w) 8 f_Desk_step qz ["self","a","b","times"] (xT T)) {f_Desk_want:Addr} {pT:FuncData} (F_Desk_want:Fun K "want" "Desk.want" b3 f_Desk_want pT) (b_Desk_want:Binds K pT ["self","place","many"] []) (sT:Meth K T.Desk "want" f_Desk_want) (G_Desk_want:FnOk P w K mg base (CXe P w) 3 f_Desk_want pT ["self","place","many"] (yp T)):FnOk P w K mg base (CXe P w) 10 f fd ["desk","deed","numbers"] (Dv T):=by
 refine D.F.okX NR (fun vs H Q E h=>?_) (fun cdv A outer s H vs Q E hr h=>?_)
 . obtain ⟨o,wb,pl,t,ln,m,ps,rs,sts,s,D,rfl,_⟩:=h
   rfl
 . obtain ⟨o,wb,pl,t,ln,m,ps,rs,sts,s,D',rfl,O,sl,f1,f2,hn,k,kb,ep,el,ew,es,ed⟩:=h;refine ⟨_,(ak (aR (ay bM (pvl 1 mQ) aN (aD _)) (al (aF (pb (pvl 0 jB) T.bp vG G_Desk_put (hr.mono (by decide)) b_Desk_put .nil bT (af (au av (pvl 2 cM) ag (fun _ _=>rfl)) (af (au av (pvl 2 cM) ag (fun _ _=>rfl)) aj))))) aB) (ak (aR (ay bM (pvl 1 mQ) aN (aD _)) (al (aF (pb (pvl 0 jB) T.bp sT G_Desk_want (hr.mono (by decide)) b_Desk_want .nil bT (af (au av (pvl 2 cM) ag (fun _ _=>rfl)) (af (au av (pvl 2 cM) ag (fun _ _=>rfl)) aj))))) aB) (ak (aR (ay bM (pvl 1 mQ) aN (aD _)) (al (aF (pb (pvl 0 jB) T.bp rN G_Desk_step (hr.mono (by decide)) b_Desk_step .nil bT (af (au av (pvl 2 cM) ag (fun _ _=>rfl)) (af (au av (pvl 2 cM) ag (fun _ _=>rfl)) (af (au av (pvl 2 cM) ag (fun _ _=>rfl)) aj)))))) aB) (al (aF (eT (pvl 0 jB) T.bp rS G_Desk_back (hr.mono (by decide)) b_Desk_back .nil bT)))))),?_⟩;rw [show L2.start ["desk","deed","numbers"] [V.ref o,V.str D'.wd,V.ref ln]=[some (V.ref o),some (V.str D'.wd),some (V.ref ln)] from rfl];have l1:=dI f1;have l2:=dI f2;have g:=O.web.go;cases D' with
   | put v n =>
     simp only [De.wd];walk_at "rd";refine O.meth (ixL hn rfl (ixL hn rfl ⟨o,wb,pl,t,m,ps,rs,sts,s,v,n,rfl,O,sl,l1,fun vr n0=>k _ (if_pos ⟨vr,n0⟩),fun z=>ep (if_pos z),fun v0 v1 z=>el ?_⟩));show (if ¬ (0<=v/\v<m) then _ else _)=_;rw [if_neg (fun q=>q ⟨v0,v1⟩),if_pos z]
   | want v n =>
     simp only [De.wd];walk_at "rd";rw [if_neg (sne (by decide +kernel))];refine O.meth (ixL hn rfl (ixL hn rfl ⟨o,wb,pl,t,m,ps,rs,sts,s,v,n,rfl,O,sl,l2,kP f2,fun vr n0=>k _ (if_pos ⟨vr,n0⟩),fun z=>ep (if_pos z),fun v0 v1 z=>ew ?_⟩));show (if ¬ (0<=v/\v<m) then _ else _)=_;rw [if_neg (fun q=>q ⟨v0,v1⟩),if_pos z]
   | step a b n =>
     simp only [De.wd];walk_at "rd";rw [if_neg (sne (by decide +kernel)),if_neg (sne (by decide +kernel))];refine O.meth (ixL hn rfl (ixL hn rfl (ixL hn rfl ⟨o,wb,pl,t,m,ps,rs,sts,s,a,b,n,rfl,O,sl,f1,fun c=>k _ (if_pos c),fun c=>es ?_⟩)));show (if cm m rs s.1 (a,b,n)=true then _ else _)=_;rw [if_neg (by rw [c];decide)]
   | back ns =>
     simp only [De.wd];walk_at "rd";rw [if_neg (sne (by decide +kernel)),if_neg (sne (by decide +kernel)),if_neg (sne (by decide +kernel))];refine O.meth ⟨o,wb,pl,t,m,ps,rs,sts,s,rfl,O,fun ne=>kb ns rfl ne,fun z=>ed ?_⟩;show (if (0:Int)<sts.length then _ else _)=_;rw [z,if_neg (by decide)]
/-- the word for a refusal of the class at C -/
def UO (T:Txt K mg) (H:Hp) (C:Addr) (od:Option Addr) (wd:Str):Prop:=(C=T.NoPlace/\wd="place")\/(C=T.BadLaying/\wd="laying")\/(C=T.BadWish/\wd="wish")\/(C=T.BadStep/\wd="step"/\∃ dx,od=some dx/\H dx=some (.xd [("at",.int 0)]))\/(C=T.NoDeed/\wd="deed")
theorem bI {K:PySem.W.Frag} {C C' Tl:Addr} (xe:XErr K Tl C) (x':XErr K Tl C') (ne:C'≠Tl) (n:C'≠C):Ls K C (.ref C') false:=by
 refine ⟨x'.x,?_⟩;rw [xe.mr,decide_eq_false ne,Bool.or_false,decide_eq_false n]
def zM (T:Txt K mg):Sp:=fun vs H Q _=>∃ (ea C:Addr) (od:Option Addr) (wd:Str),vs=[.ref ea]/\H ea=some (ExO ea (.ref C) od)/\XDict H od/\XErr K T.TollError C/\UO T H C od wd/\∀ H',Same H H'->Q (.str wd) H'
abbrev bc:Stmt:=top 54
theorem rL:FnScope ["e","kinds"] ["e"] (aa bc):=FnScope.of (by kernel_rfl)
theorem c7:NmL (aa bc) "e":=.of (by kernel_rfl)
theorem d7:NmL (aa bc) "kinds":=.of (by kernel_rfl)
theorem ap:NmG (aa bc) "isinstance":=.of (by kernel_rfl)
theorem wn:NmG (aa bc) "NoPlace":=.of (by kernel_rfl)
theorem tQ:NmG (aa bc) "BadLaying":=.of (by kernel_rfl)
theorem wt:NmG (aa bc) "BadWish":=.of (by kernel_rfl)
theorem l8:NmG (aa bc) "BadStep":=.of (by kernel_rfl)
theorem wV:NmG (aa bc) "NoDeed":=.of (by kernel_rfl)
theorem fN:NmG (aa bc) "ValueError":=.of (by kernel_rfl)
theorem xy:NmG (aa bc) "BadWeb":=.of (by kernel_rfl)
theorem yG:NmG (aa bc) "NoRoad":=.of (by kernel_rfl)
theorem vw:NmG (aa bc) "NoNumber":=.of (by kernel_rfl)
theorem wB:NmG (aa bc) "NoWorst":=.of (by kernel_rfl)
theorem wC:NmG (aa bc) "TooMany":=.of (by kernel_rfl)
theorem IA (T:Txt K mg) (hq:aV (CXe P w)) {f:Addr} {fd:FuncData} (D:Df K mg "_law_kind" bc ["e"] f fd):FnOkH P w K mg base 1 f fd ["e"] (zM T):=by
 refine D.F.okH rL (fun vs H Q E h=>?_) (fun cdv A outer s H vs Q E hr h=>?_)
 . obtain ⟨ea,C,od,wd,rfl,_⟩:=h
   rfl
 . obtain ⟨ea,C,od,wd,rfl,he,hd,xe,hw,k⟩:=h;refine ⟨_,(ak (aJ (i:=1) rL.nd rfl (Or.inl d7.l) (bE (af (ba kJ ap.g T.isinstance b9 (af (pvl 0 c7) (af (ff (v:=.ref T.NoPlace) wn.g T.DH rfl) aj)) (hn:=ap.n) (hdb:=ap.d)) (af (ba kJ ap.g T.isinstance b9 (af (pvl 0 c7) (af (ff (v:=.ref T.BadLaying) tQ.g T.zv rfl) aj)) (hn:=ap.n) (hdb:=ap.d)) (af (ba kJ ap.g T.isinstance b9 (af (pvl 0 c7) (af (ff (v:=.ref T.BadWish) wt.g T.Dg rfl) aj)) (hn:=ap.n) (hdb:=ap.d)) (af (ba kJ ap.g T.isinstance b9 (af (pvl 0 c7) (af (ff (v:=.ref T.BadStep) l8.g T.yk rfl) aj)) (hn:=ap.n) (hdb:=ap.d)) aj)))))) (ak (aJ (i:=1) rL.nd rfl (Or.inl d7.l) (ao TK (pvl 1 d7) (bE (af (ba kJ ap.g T.isinstance b9 (af (pvl 0 c7) (af (ff (v:=.ref T.NoDeed) wV.g T.GX rfl) aj)) (hn:=ap.n) (hdb:=ap.d)) aj)))) (ak (aR (PW.pt (oX (gn (gh (ba kJ ap.g T.isinstance b9 (af (pvl 0 c7) (af (yV (v:=.ty "ValueError") fN.g T.ValueError D8 rfl (hn:=fN.n) (hd:=fN.d)) aj)) (hn:=ap.n) (hdb:=ap.d)))) (ni (gh (ba NJ ap.g T.isinstance b9 (af (pvl 0 c7) (af (dM (af (ff (v:=.ref T.BadWeb) xy.g T.Rs rfl) (af (ff (v:=.ref T.NoRoad) yG.g T.FQ rfl) (af (ff (v:=.ref T.NoNumber) vw.g T.Mo rfl) (af (ff (v:=.ref T.NoWorst) wB.g T.N9 rfl) (af (ff (v:=.ref T.TooMany) wC.g T.Nj rfl) aj)))))) aj)) (hn:=ap.n) (hdb:=ap.d)))))) (al (aF aN)) aB) (ak (aR (PW.pt (oX (ay re (lN PySem.F.plainAttrs_list PySem.F.slot_list_count PySem.F.type_list_count OF (pvl 1 d7) (af lM aj)) ag (aD _)) (ni (PW.pt (lF (gh (ba kJ ap.g T.isinstance b9 (af (pvl 0 c7) (af (ff (v:=.ref T.BadStep) l8.g T.yk rfl) aj)) (hn:=ap.n) (hdb:=ap.d))) (jw (ay re (SD K rfl (pvl 0 c7) rfl) ag (aD _)))))))) (al (aF aN)) aB) (al (aF (au av (bE (af aN (af aN (af aN (af aN (af aN aj)))))) (lN PySem.F.plainAttrs_list PySem.F.slot_list_index PySem.F.type_list_index M0 (pvl 1 d7) (af lM aj)) (fun _ _=>rfl)))))))),?_⟩;rw [show L2.start ["e","kinds"] [V.ref ea]=[some (V.ref ea),none] from rfl];walk_at "rd";have m7:T.NoPlace≠T.TollError:=(aG T.ndx 2 0 rfl rfl (by decide));have jY:T.BadLaying≠T.TollError:=(aG T.ndx 4 0 rfl rfl (by decide));have nD:T.BadWish≠T.TollError:=(aG T.ndx 5 0 rfl rfl (by decide));have eE:T.BadStep≠T.TollError:=(aG T.ndx 10 0 rfl rfl (by decide));have pE:T.NoDeed≠T.TollError:=(aG T.ndx 9 0 rfl rfl (by decide));have pc:T.BadWeb≠T.TollError:=(aG T.ndx 1 0 rfl rfl (by decide));have p8:T.NoRoad≠T.TollError:=(aG T.ndx 3 0 rfl rfl (by decide));have lZ:T.NoNumber≠T.TollError:=(aG T.ndx 7 0 rfl rfl (by decide));have nA:T.NoWorst≠T.TollError:=(aG T.ndx 8 0 rfl rfl (by decide));have m9:T.TooMany≠T.TollError:=(aG T.ndx 6 0 rfl rfl (by decide));rcases hw with ⟨rfl,rfl⟩|⟨rfl,rfl⟩|⟨rfl,rfl⟩|⟨rfl,rfl,dx,rfl,hdx⟩|⟨rfl,rfl⟩
   . have gK:T.BadWeb≠T.NoPlace:=(aG T.ndx 1 2 rfl rfl (by decide));have gI:T.NoRoad≠T.NoPlace:=(aG T.ndx 3 2 rfl rfl (by decide));have eg:T.NoNumber≠T.NoPlace:=(aG T.ndx 7 2 rfl rfl (by decide));have fB:T.NoWorst≠T.NoPlace:=(aG T.ndx 8 2 rfl rfl (by decide));have fC:T.TooMany≠T.NoPlace:=(aG T.ndx 6 2 rfl rfl (by decide));have fw:decide (T.NoPlace=T.NoPlace)=true:=decide_eq_true rfl;have dL:decide (T.BadLaying=T.NoPlace)=false:=decide_eq_false (aG T.ndx 4 2 rfl rfl (by decide));have fA:decide (T.BadWish=T.NoPlace)=false:=decide_eq_false (aG T.ndx 5 2 rfl rfl (by decide));have cN:decide (T.BadStep=T.NoPlace)=false:=decide_eq_false (aG T.ndx 10 2 rfl rfl (by decide));have gv:decide (T.NoDeed=T.NoPlace)=false:=decide_eq_false (aG T.ndx 9 2 rfl rfl (by decide));refine bg he hd xe T.kR m7 (bg he hd xe T.hV jY (bg he hd xe T.kO nD (bg he hd xe T.dS eE ⟨ax (by simp),fun p1 n1=>?_⟩)));rw [fw,dL,fA,cN];have s1:=Same.new (.lst [V.bl true,V.bl false,V.bl false,V.bl false]) n1;have e1:upd H p1 (.lst [V.bl true,V.bl false,V.bl false,V.bl false]) p1=some (.lst [V.bl true,V.bl false,V.bl false,V.bl false]):=ah;generalize upd H p1 (.lst [V.bl true,V.bl false,V.bl false,V.bl false])=H1 at s1 e1 ⊢;refine bg (s1 _ _ he) (hd.same s1) xe T.mT pE ⟨ax (by simp),fun p2 n2=>?_⟩;rw [gv];have s2:=Same.new (.lst [V.bl false]) n2;refine Fv (s2 _ _ e1) ah (ax (by simp)) fun p3 n3=>?_;have s3:=(s1.trans s2).trans (Same.new (.lst ([V.bl true,V.bl false,V.bl false,V.bl false]++[V.bl false])) n3);have e3:upd (upd H1 p2 (.lst [V.bl false])) p3 (.lst ([V.bl true,V.bl false,V.bl false,V.bl false]++[V.bl false])) p3=some (.lst ([true,false,false,false,false].map V.bl)):=ah;generalize upd (upd H1 p2 (.lst [V.bl false])) p3 (.lst ([V.bl true,V.bl false,V.bl false,V.bl false]++[V.bl false]))=H3 at s3 e3 ⊢;refine tG (s3 _ _ he) (hd.same s3) xe ⟨_,rfl,?_⟩;rw [if_neg (by decide)];refine ⟨ax (by simp),fun p4 n4=>?_⟩;have s4:=Same.new (.tup [V.ref T.BadWeb,V.ref T.NoRoad,V.ref T.NoNumber,V.ref T.NoWorst,V.ref T.TooMany]) n4;refine ⟨ea,_,od,p4,_,[false,false,false,false,false],rfl,s4 _ _ (s3 _ _ he),(hd.same s3).same s4,xe.x,ah,.cons (bI xe T.pC pc gK) (.cons (bI xe T.qa p8 gI) (.cons (bI xe T.lP lZ eg) (.cons (bI xe T.ny nA fB) (.cons (bI xe T.nk m9 fC) .nil)))),_,rfl,?_⟩;rw [if_neg (by decide)];have e4:=s4 _ _ e3;have s5:=s3.trans s4;generalize upd H3 p4 (.tup [V.ref T.BadWeb,V.ref T.NoRoad,V.ref T.NoNumber,V.ref T.NoWorst,V.ref T.TooMany])=H4 at s5 e4 ⊢;refine ⟨tyL e4,p3,[true,false,false,false,false],rfl,rfl,e4,rfl,?_⟩;rw [if_neg (fun z=>z rfl)];refine bg (s5 _ _ he) (hd.same s5) xe T.dS eE ⟨_,rfl,?_⟩;rw [cN];rw [if_neg (by decide)];refine ⟨ax (by simp),fun p5 n5=>?_⟩;have s6:=Same.new (.lst [V.str "place",V.str "laying",V.str "wish",V.str "step",V.str "deed"]) n5;have e6:=s6 _ _ e4;refine ⟨tyL e6,p3,[true,false,false,false,false],0,rfl,rfl,e6,rfl,fun i hi=>?_,by decide,?_⟩
     . match i,hi with
       | i+0,hi=>exact absurd hi (by omega)
     exact ixL ah rfl (k _ (s5.trans s6))
   . have gK:T.BadWeb≠T.BadLaying:=(aG T.ndx 1 4 rfl rfl (by decide));have gI:T.NoRoad≠T.BadLaying:=(aG T.ndx 3 4 rfl rfl (by decide));have eg:T.NoNumber≠T.BadLaying:=(aG T.ndx 7 4 rfl rfl (by decide));have fB:T.NoWorst≠T.BadLaying:=(aG T.ndx 8 4 rfl rfl (by decide));have fC:T.TooMany≠T.BadLaying:=(aG T.ndx 6 4 rfl rfl (by decide));have fw:decide (T.NoPlace=T.BadLaying)=false:=decide_eq_false (aG T.ndx 2 4 rfl rfl (by decide));have dL:decide (T.BadLaying=T.BadLaying)=true:=decide_eq_true rfl;have fA:decide (T.BadWish=T.BadLaying)=false:=decide_eq_false (aG T.ndx 5 4 rfl rfl (by decide));have cN:decide (T.BadStep=T.BadLaying)=false:=decide_eq_false (aG T.ndx 10 4 rfl rfl (by decide));have gv:decide (T.NoDeed=T.BadLaying)=false:=decide_eq_false (aG T.ndx 9 4 rfl rfl (by decide));refine bg he hd xe T.kR m7 (bg he hd xe T.hV jY (bg he hd xe T.kO nD (bg he hd xe T.dS eE ⟨ax (by simp),fun p1 n1=>?_⟩)));rw [fw,dL,fA,cN];have s1:=Same.new (.lst [V.bl false,V.bl true,V.bl false,V.bl false]) n1;have e1:upd H p1 (.lst [V.bl false,V.bl true,V.bl false,V.bl false]) p1=some (.lst [V.bl false,V.bl true,V.bl false,V.bl false]):=ah;generalize upd H p1 (.lst [V.bl false,V.bl true,V.bl false,V.bl false])=H1 at s1 e1 ⊢;refine bg (s1 _ _ he) (hd.same s1) xe T.mT pE ⟨ax (by simp),fun p2 n2=>?_⟩;rw [gv];have s2:=Same.new (.lst [V.bl false]) n2;refine Fv (s2 _ _ e1) ah (ax (by simp)) fun p3 n3=>?_;have s3:=(s1.trans s2).trans (Same.new (.lst ([V.bl false,V.bl true,V.bl false,V.bl false]++[V.bl false])) n3);have e3:upd (upd H1 p2 (.lst [V.bl false])) p3 (.lst ([V.bl false,V.bl true,V.bl false,V.bl false]++[V.bl false])) p3=some (.lst ([false,true,false,false,false].map V.bl)):=ah;generalize upd (upd H1 p2 (.lst [V.bl false])) p3 (.lst ([V.bl false,V.bl true,V.bl false,V.bl false]++[V.bl false]))=H3 at s3 e3 ⊢;refine tG (s3 _ _ he) (hd.same s3) xe ⟨_,rfl,?_⟩;rw [if_neg (by decide)];refine ⟨ax (by simp),fun p4 n4=>?_⟩;have s4:=Same.new (.tup [V.ref T.BadWeb,V.ref T.NoRoad,V.ref T.NoNumber,V.ref T.NoWorst,V.ref T.TooMany]) n4;refine ⟨ea,_,od,p4,_,[false,false,false,false,false],rfl,s4 _ _ (s3 _ _ he),(hd.same s3).same s4,xe.x,ah,.cons (bI xe T.pC pc gK) (.cons (bI xe T.qa p8 gI) (.cons (bI xe T.lP lZ eg) (.cons (bI xe T.ny nA fB) (.cons (bI xe T.nk m9 fC) .nil)))),_,rfl,?_⟩;rw [if_neg (by decide)];have e4:=s4 _ _ e3;have s5:=s3.trans s4;generalize upd H3 p4 (.tup [V.ref T.BadWeb,V.ref T.NoRoad,V.ref T.NoNumber,V.ref T.NoWorst,V.ref T.TooMany])=H4 at s5 e4 ⊢;refine ⟨tyL e4,p3,[false,true,false,false,false],rfl,rfl,e4,rfl,?_⟩;rw [if_neg (fun z=>z rfl)];refine bg (s5 _ _ he) (hd.same s5) xe T.dS eE ⟨_,rfl,?_⟩;rw [cN];rw [if_neg (by decide)];refine ⟨ax (by simp),fun p5 n5=>?_⟩;have s6:=Same.new (.lst [V.str "place",V.str "laying",V.str "wish",V.str "step",V.str "deed"]) n5;have e6:=s6 _ _ e4;refine ⟨tyL e6,p3,[false,true,false,false,false],1,rfl,rfl,e6,rfl,fun i hi=>?_,by decide,?_⟩
     . match i,hi with
       | 0,_=>exact rfl
       | i+1,hi=>exact absurd hi (by omega)
     exact ixL ah rfl (k _ (s5.trans s6))
   . have gK:T.BadWeb≠T.BadWish:=(aG T.ndx 1 5 rfl rfl (by decide));have gI:T.NoRoad≠T.BadWish:=(aG T.ndx 3 5 rfl rfl (by decide));have eg:T.NoNumber≠T.BadWish:=(aG T.ndx 7 5 rfl rfl (by decide));have fB:T.NoWorst≠T.BadWish:=(aG T.ndx 8 5 rfl rfl (by decide));have fC:T.TooMany≠T.BadWish:=(aG T.ndx 6 5 rfl rfl (by decide));have fw:decide (T.NoPlace=T.BadWish)=false:=decide_eq_false (aG T.ndx 2 5 rfl rfl (by decide));have dL:decide (T.BadLaying=T.BadWish)=false:=decide_eq_false (aG T.ndx 4 5 rfl rfl (by decide));have fA:decide (T.BadWish=T.BadWish)=true:=decide_eq_true rfl;have cN:decide (T.BadStep=T.BadWish)=false:=decide_eq_false (aG T.ndx 10 5 rfl rfl (by decide));have gv:decide (T.NoDeed=T.BadWish)=false:=decide_eq_false (aG T.ndx 9 5 rfl rfl (by decide));refine bg he hd xe T.kR m7 (bg he hd xe T.hV jY (bg he hd xe T.kO nD (bg he hd xe T.dS eE ⟨ax (by simp),fun p1 n1=>?_⟩)));rw [fw,dL,fA,cN];have s1:=Same.new (.lst [V.bl false,V.bl false,V.bl true,V.bl false]) n1;have e1:upd H p1 (.lst [V.bl false,V.bl false,V.bl true,V.bl false]) p1=some (.lst [V.bl false,V.bl false,V.bl true,V.bl false]):=ah;generalize upd H p1 (.lst [V.bl false,V.bl false,V.bl true,V.bl false])=H1 at s1 e1 ⊢;refine bg (s1 _ _ he) (hd.same s1) xe T.mT pE ⟨ax (by simp),fun p2 n2=>?_⟩;rw [gv];have s2:=Same.new (.lst [V.bl false]) n2;refine Fv (s2 _ _ e1) ah (ax (by simp)) fun p3 n3=>?_;have s3:=(s1.trans s2).trans (Same.new (.lst ([V.bl false,V.bl false,V.bl true,V.bl false]++[V.bl false])) n3);have e3:upd (upd H1 p2 (.lst [V.bl false])) p3 (.lst ([V.bl false,V.bl false,V.bl true,V.bl false]++[V.bl false])) p3=some (.lst ([false,false,true,false,false].map V.bl)):=ah;generalize upd (upd H1 p2 (.lst [V.bl false])) p3 (.lst ([V.bl false,V.bl false,V.bl true,V.bl false]++[V.bl false]))=H3 at s3 e3 ⊢;refine tG (s3 _ _ he) (hd.same s3) xe ⟨_,rfl,?_⟩;rw [if_neg (by decide)];refine ⟨ax (by simp),fun p4 n4=>?_⟩;have s4:=Same.new (.tup [V.ref T.BadWeb,V.ref T.NoRoad,V.ref T.NoNumber,V.ref T.NoWorst,V.ref T.TooMany]) n4;refine ⟨ea,_,od,p4,_,[false,false,false,false,false],rfl,s4 _ _ (s3 _ _ he),(hd.same s3).same s4,xe.x,ah,.cons (bI xe T.pC pc gK) (.cons (bI xe T.qa p8 gI) (.cons (bI xe T.lP lZ eg) (.cons (bI xe T.ny nA fB) (.cons (bI xe T.nk m9 fC) .nil)))),_,rfl,?_⟩;rw [if_neg (by decide)];have e4:=s4 _ _ e3;have s5:=s3.trans s4;generalize upd H3 p4 (.tup [V.ref T.BadWeb,V.ref T.NoRoad,V.ref T.NoNumber,V.ref T.NoWorst,V.ref T.TooMany])=H4 at s5 e4 ⊢;refine ⟨tyL e4,p3,[false,false,true,false,false],rfl,rfl,e4,rfl,?_⟩;rw [if_neg (fun z=>z rfl)];refine bg (s5 _ _ he) (hd.same s5) xe T.dS eE ⟨_,rfl,?_⟩;rw [cN];rw [if_neg (by decide)];refine ⟨ax (by simp),fun p5 n5=>?_⟩;have s6:=Same.new (.lst [V.str "place",V.str "laying",V.str "wish",V.str "step",V.str "deed"]) n5;have e6:=s6 _ _ e4;refine ⟨tyL e6,p3,[false,false,true,false,false],2,rfl,rfl,e6,rfl,fun i hi=>?_,by decide,?_⟩
     . match i,hi with
       | 0,_=>exact rfl
       | 1,_=>exact rfl
       | i+2,hi=>exact absurd hi (by omega)
     exact ixL ah rfl (k _ (s5.trans s6))
   . have gK:T.BadWeb≠T.BadStep:=(aG T.ndx 1 10 rfl rfl (by decide));have gI:T.NoRoad≠T.BadStep:=(aG T.ndx 3 10 rfl rfl (by decide));have eg:T.NoNumber≠T.BadStep:=(aG T.ndx 7 10 rfl rfl (by decide));have fB:T.NoWorst≠T.BadStep:=(aG T.ndx 8 10 rfl rfl (by decide));have fC:T.TooMany≠T.BadStep:=(aG T.ndx 6 10 rfl rfl (by decide));have fw:decide (T.NoPlace=T.BadStep)=false:=decide_eq_false (aG T.ndx 2 10 rfl rfl (by decide));have dL:decide (T.BadLaying=T.BadStep)=false:=decide_eq_false (aG T.ndx 4 10 rfl rfl (by decide));have fA:decide (T.BadWish=T.BadStep)=false:=decide_eq_false (aG T.ndx 5 10 rfl rfl (by decide));have cN:decide (T.BadStep=T.BadStep)=true:=decide_eq_true rfl;have gv:decide (T.NoDeed=T.BadStep)=false:=decide_eq_false (aG T.ndx 9 10 rfl rfl (by decide));refine bg he hd xe T.kR m7 (bg he hd xe T.hV jY (bg he hd xe T.kO nD (bg he hd xe T.dS eE ⟨ax (by simp),fun p1 n1=>?_⟩)));rw [fw,dL,fA,cN];have s1:=Same.new (.lst [V.bl false,V.bl false,V.bl false,V.bl true]) n1;have e1:upd H p1 (.lst [V.bl false,V.bl false,V.bl false,V.bl true]) p1=some (.lst [V.bl false,V.bl false,V.bl false,V.bl true]):=ah;generalize upd H p1 (.lst [V.bl false,V.bl false,V.bl false,V.bl true])=H1 at s1 e1 ⊢;refine bg (s1 _ _ he) (hd.same s1) xe T.mT pE ⟨ax (by simp),fun p2 n2=>?_⟩;rw [gv];have s2:=Same.new (.lst [V.bl false]) n2;refine Fv (s2 _ _ e1) ah (ax (by simp)) fun p3 n3=>?_;have s3:=(s1.trans s2).trans (Same.new (.lst ([V.bl false,V.bl false,V.bl false,V.bl true]++[V.bl false])) n3);have e3:upd (upd H1 p2 (.lst [V.bl false])) p3 (.lst ([V.bl false,V.bl false,V.bl false,V.bl true]++[V.bl false])) p3=some (.lst ([false,false,false,true,false].map V.bl)):=ah;generalize upd (upd H1 p2 (.lst [V.bl false])) p3 (.lst ([V.bl false,V.bl false,V.bl false,V.bl true]++[V.bl false]))=H3 at s3 e3 ⊢;refine tG (s3 _ _ he) (hd.same s3) xe ⟨_,rfl,?_⟩;rw [if_neg (by decide)];refine ⟨ax (by simp),fun p4 n4=>?_⟩;have s4:=Same.new (.tup [V.ref T.BadWeb,V.ref T.NoRoad,V.ref T.NoNumber,V.ref T.NoWorst,V.ref T.TooMany]) n4;refine ⟨ea,_,(some dx),p4,_,[false,false,false,false,false],rfl,s4 _ _ (s3 _ _ he),(hd.same s3).same s4,xe.x,ah,.cons (bI xe T.pC pc gK) (.cons (bI xe T.qa p8 gI) (.cons (bI xe T.lP lZ eg) (.cons (bI xe T.ny nA fB) (.cons (bI xe T.nk m9 fC) .nil)))),_,rfl,?_⟩;rw [if_neg (by decide)];have e4:=s4 _ _ e3;have s5:=s3.trans s4;generalize upd H3 p4 (.tup [V.ref T.BadWeb,V.ref T.NoRoad,V.ref T.NoNumber,V.ref T.NoWorst,V.ref T.TooMany])=H4 at s5 e4 ⊢;refine ⟨tyL e4,p3,[false,false,false,true,false],rfl,rfl,e4,rfl,?_⟩;rw [if_neg (fun z=>z rfl)];refine bg (s5 _ _ he) (hd.same s5) xe T.dS eE ⟨_,rfl,?_⟩;rw [cN];rw [if_pos rfl];refine ⟨ea,T.BadStep,dx,_,.int 0,rfl,s5 _ _ he,xe.x,T.NC,s5 _ _ hdx,rfl,rfl,?_⟩;rw [if_neg (fun z=>z rfl)];refine ⟨ax (by simp),fun p5 n5=>?_⟩;have s6:=Same.new (.lst [V.str "place",V.str "laying",V.str "wish",V.str "step",V.str "deed"]) n5;have e6:=s6 _ _ e4;refine ⟨tyL e6,p3,[false,false,false,true,false],3,rfl,rfl,e6,rfl,fun i hi=>?_,by decide,?_⟩
     . match i,hi with
       | 0,_=>exact rfl
       | 1,_=>exact rfl
       | 2,_=>exact rfl
       | i+3,hi=>exact absurd hi (by omega)
     exact ixL ah rfl (k _ (s5.trans s6))
   . have gK:T.BadWeb≠T.NoDeed:=(aG T.ndx 1 9 rfl rfl (by decide));have gI:T.NoRoad≠T.NoDeed:=(aG T.ndx 3 9 rfl rfl (by decide));have eg:T.NoNumber≠T.NoDeed:=(aG T.ndx 7 9 rfl rfl (by decide));have fB:T.NoWorst≠T.NoDeed:=(aG T.ndx 8 9 rfl rfl (by decide));have fC:T.TooMany≠T.NoDeed:=(aG T.ndx 6 9 rfl rfl (by decide));have fw:decide (T.NoPlace=T.NoDeed)=false:=decide_eq_false (aG T.ndx 2 9 rfl rfl (by decide));have dL:decide (T.BadLaying=T.NoDeed)=false:=decide_eq_false (aG T.ndx 4 9 rfl rfl (by decide));have fA:decide (T.BadWish=T.NoDeed)=false:=decide_eq_false (aG T.ndx 5 9 rfl rfl (by decide));have cN:decide (T.BadStep=T.NoDeed)=false:=decide_eq_false (aG T.ndx 10 9 rfl rfl (by decide));have gv:decide (T.NoDeed=T.NoDeed)=true:=decide_eq_true rfl;refine bg he hd xe T.kR m7 (bg he hd xe T.hV jY (bg he hd xe T.kO nD (bg he hd xe T.dS eE ⟨ax (by simp),fun p1 n1=>?_⟩)));rw [fw,dL,fA,cN];have s1:=Same.new (.lst [V.bl false,V.bl false,V.bl false,V.bl false]) n1;have e1:upd H p1 (.lst [V.bl false,V.bl false,V.bl false,V.bl false]) p1=some (.lst [V.bl false,V.bl false,V.bl false,V.bl false]):=ah;generalize upd H p1 (.lst [V.bl false,V.bl false,V.bl false,V.bl false])=H1 at s1 e1 ⊢;refine bg (s1 _ _ he) (hd.same s1) xe T.mT pE ⟨ax (by simp),fun p2 n2=>?_⟩;rw [gv];have s2:=Same.new (.lst [V.bl true]) n2;refine Fv (s2 _ _ e1) ah (ax (by simp)) fun p3 n3=>?_;have s3:=(s1.trans s2).trans (Same.new (.lst ([V.bl false,V.bl false,V.bl false,V.bl false]++[V.bl true])) n3);have e3:upd (upd H1 p2 (.lst [V.bl true])) p3 (.lst ([V.bl false,V.bl false,V.bl false,V.bl false]++[V.bl true])) p3=some (.lst ([false,false,false,false,true].map V.bl)):=ah;generalize upd (upd H1 p2 (.lst [V.bl true])) p3 (.lst ([V.bl false,V.bl false,V.bl false,V.bl false]++[V.bl true]))=H3 at s3 e3 ⊢;refine tG (s3 _ _ he) (hd.same s3) xe ⟨_,rfl,?_⟩;rw [if_neg (by decide)];refine ⟨ax (by simp),fun p4 n4=>?_⟩;have s4:=Same.new (.tup [V.ref T.BadWeb,V.ref T.NoRoad,V.ref T.NoNumber,V.ref T.NoWorst,V.ref T.TooMany]) n4;refine ⟨ea,_,od,p4,_,[false,false,false,false,false],rfl,s4 _ _ (s3 _ _ he),(hd.same s3).same s4,xe.x,ah,.cons (bI xe T.pC pc gK) (.cons (bI xe T.qa p8 gI) (.cons (bI xe T.lP lZ eg) (.cons (bI xe T.ny nA fB) (.cons (bI xe T.nk m9 fC) .nil)))),_,rfl,?_⟩;rw [if_neg (by decide)];have e4:=s4 _ _ e3;have s5:=s3.trans s4;generalize upd H3 p4 (.tup [V.ref T.BadWeb,V.ref T.NoRoad,V.ref T.NoNumber,V.ref T.NoWorst,V.ref T.TooMany])=H4 at s5 e4 ⊢;refine ⟨tyL e4,p3,[false,false,false,false,true],rfl,rfl,e4,rfl,?_⟩;rw [if_neg (fun z=>z rfl)];refine bg (s5 _ _ he) (hd.same s5) xe T.dS eE ⟨_,rfl,?_⟩;rw [cN];rw [if_neg (by decide)];refine ⟨ax (by simp),fun p5 n5=>?_⟩;have s6:=Same.new (.lst [V.str "place",V.str "laying",V.str "wish",V.str "step",V.str "deed"]) n5;have e6:=s6 _ _ e4;refine ⟨tyL e6,p3,[false,false,false,false,true],4,rfl,rfl,e6,rfl,fun i hi=>?_,by decide,?_⟩
     . match i,hi with
       | 0,_=>exact rfl
       | 1,_=>exact rfl
       | 2,_=>exact rfl
       | 3,_=>exact rfl
       | i+4,hi=>exact absurd hi (by omega)
     exact ixL ah rfl (k _ (s5.trans s6))
def zy (T:Txt K mg):Sp:=fun vs H Q _=>∃ (o wb pl t ln:Addr) (m:Int) (ps:List Addr) (rs:List Road) (sts:List (List Int × List Int)) (s:List Int × List Int) (D:De),vs=[.ref o,.str D.wd,.ref ln]/\DeskAt T.Web T.Desk H o wb pl m t ps rs (sts++[s])/\sts.length<=500/\aI m s.1=true/\aI m s.2=true/\H ln=some (.lst (D.ns.map V.int))/\
 (∀ s',bhe m rs s D=some s'->∀ H',DeskAt T.Web T.Desk H' o wb pl m t ps rs (sts++[s]++[s'])->Kpt pl H H'->Q (.str "fine") H') /\
 (∀ ns,D=.back ns->sts≠[]->∀ H',DeskAt T.Web T.Desk H' o wb pl m t ps rs sts->Kpt pl H H'->Q (.str "fine") H') /\
 (d3 m rs s sts.length D≠"fine"->∀ H',Same H H'->Q (.str (d3 m rs s sts.length D)) H')
abbrev bR:Stmt:=top 57
theorem mX:FnScope ["desk","deed","numbers","told","e"] ["desk","deed","numbers"] (aa bR):=FnScope.of (by kernel_rfl)
theorem Ao:NmL (aa bR) "desk":=.of (by kernel_rfl)
theorem Aa:NmL (aa bR) "deed":=.of (by kernel_rfl)
theorem wp:NmL (aa bR) "numbers":=.of (by kernel_rfl)
theorem km:NmL (aa bR) "told":=.of (by kernel_rfl)
theorem vZ:NmL (aa bR) "e":=.of (by kernel_rfl)
theorem nh:NmG (aa bR) "_law_do":=.of (by kernel_rfl)
theorem kM:NmG (aa bR) "TollError":=.of (by kernel_rfl)
theorem lQ:NmG (aa bR) "_law_kind":=.of (by kernel_rfl)
theorem Ha (T:Txt K mg) (hq:aV (CXe P w)) {f:Addr} {fd:FuncData} (D:Df K mg "_law_told" bR ["desk","deed","numbers"] f fd) {kE:Addr} {Da:FuncData} (mL:Df K mg "_law_do" eR ["desk","deed","numbers"] kE Da) (G_law_do:FnOk P w K mg base (CXe P w) 10 kE Da ["desk","deed","numbers"] (Dv T)) {gL:Addr} {zK:FuncData} (jv:Df K mg "_law_kind" bc ["e"] gL zK) (G_law_kind:FnOkH P w K mg base 1 gL zK ["e"] (zM T)):FnOk P w K mg base (CXe P w) 11 f fd ["desk","deed","numbers"] (zy T):=by
 refine D.F.okC mX (fun vs H Q E h=>?_) (fun cdv A outer s H vs Q E hr h=>?_)
 . obtain ⟨o,wb,pl,t,ln,m,ps,rs,sts,s,D,rfl,_⟩:=h
   rfl
 . obtain ⟨o,wb,pl,t,ln,m,ps,rs,sts,s,D',rfl,O,sl,f1,f2,hn,k,kb,kd⟩:=h;refine ⟨_,(ak (aJ (i:=3) mX.nd rfl (Or.inl km.l) aN) (ak (Uf rfl rfl rfl (P6 (RG (Rl G_law_do (hr.mono (by decide)) nh.g mL.m mL.F.kp mL.b .nil (af (pvl 0 Ao) (af (pvl 1 Aa) (af (pvl 2 wp) aj))) (hdb:=nh.d)))) (Uo (i:=4) T.Iw.x kM.g T.zo mX.nd rfl vZ.l (fun _=>(al (aJ (i:=3) mX.nd rfl (Or.inl km.l) (Q5 G_law_kind (RoomH.mark (Room.h (hr.mono (by decide))) _) lQ.g jv.m jv.F.kp jv.b (af (pvl 4 vZ) aj) (hdb:=lQ.d))))) Ui (hdb:=kM.d))) (al (aF (pvl 3 km))))),?_⟩;rw [show L2.start ["desk","deed","numbers","told","e"] [V.ref o,V.str D'.wd,V.ref ln]=[some (V.ref o),some (V.str D'.wd),some (V.ref ln),none,none] from rfl];walk_at "rd";refine ⟨o,wb,pl,t,ln,m,ps,rs,sts,s,D',rfl,O,sl,f1,f2,hn,fun s' e H' d kp=>k s' e H' d kp,fun ns e ne H' d kp=>kb ns e ne H' d kp,fun z H1 s1=>?_,fun z H1 s1=>?_,fun z H1 s1=>?_,fun z dx H1 s1 hd=>?_,fun z=>?_⟩
   . rw [z] at kd;have xe:=T.kR;refine ⟨T.NoPlace,rfl,true,by rw [xe.mr];simp,?_⟩;rw [if_pos rfl];intro ea ne;have s2:=Same.new (ExO ea (.ref T.NoPlace) none) ne;refine ⟨ea,T.NoPlace,none,"place",rfl,ah,trivial,xe,.inl ⟨rfl,rfl⟩,fun H2 s3=>kd (by decide) H2 (s1.trans (s2.trans s3))⟩
   . rw [z] at kd;have xe:=T.hV;refine ⟨T.BadLaying,rfl,true,by rw [xe.mr];simp,?_⟩;rw [if_pos rfl];intro ea ne;have s2:=Same.new (ExO ea (.ref T.BadLaying) none) ne;refine ⟨ea,T.BadLaying,none,"laying",rfl,ah,trivial,xe,.inr (.inl ⟨rfl,rfl⟩),fun H2 s3=>kd (by decide) H2 (s1.trans (s2.trans s3))⟩
   . rw [z] at kd;have xe:=T.kO;refine ⟨T.BadWish,rfl,true,by rw [xe.mr];simp,?_⟩;rw [if_pos rfl];intro ea ne;have s2:=Same.new (ExO ea (.ref T.BadWish) none) ne;refine ⟨ea,T.BadWish,none,"wish",rfl,ah,trivial,xe,.inr (.inr (.inl ⟨rfl,rfl⟩)),fun H2 s3=>kd (by decide) H2 (s1.trans (s2.trans s3))⟩
   . rw [z] at kd;have xe:=T.dS;refine ⟨T.BadStep,rfl,true,by rw [xe.mr];simp,?_⟩;rw [if_pos rfl];intro ea ne;have s2:=Same.new (ExO ea (.ref T.BadStep) (some dx)) ne;refine ⟨ea,T.BadStep,(some dx),"step",rfl,ah,⟨_,s2 _ _ hd⟩,xe,.inr (.inr (.inr (.inl ⟨rfl,rfl,dx,rfl,s2 _ _ hd⟩))),fun H2 s3=>kd (by decide) H2 (s1.trans (s2.trans s3))⟩
   . rw [z] at kd;have xe:=T.mT;refine ⟨T.NoDeed,rfl,true,by rw [xe.mr];simp,?_⟩;rw [if_pos rfl];intro ea ne;have s2:=Same.new (ExO ea (.ref T.NoDeed) none) ne;refine ⟨ea,T.NoDeed,none,"deed",rfl,ah,trivial,xe,.inr (.inr (.inr (.inr ⟨rfl,rfl⟩))),fun H2 s3=>kd (by decide) H2 (s2.trans s3)⟩
def EG (K:PySem.W.Frag):Sp:=fun vs H Q _=>∃ (a:Addr) (ns:List Int),vs=[.ref a]/\SqL K H a (ns.map V.int)/\ns.length<=63/\∀ H',Q (.bl true) H'
def Ts (T:Txt K mg):Sp:=EG K
/-- a state that the law keeps: neither of its rows is one of the two that change -/
def StM (sl pl:Addr) (H:Hp) (q:Addr) (s:List Int × List Int):Prop:=∃ a b,H q=some (.tup [.ref a,.ref b])/\H a=some (.lst (s.1.map V.int))/\H b=some (.lst (s.2.map V.int))/\(a≠sl/\a≠pl)/\b≠sl/\b≠pl
theorem StM.kpt {sl pl l:Addr} {H H':Hp} {q:Addr} {s:List Int × List Int} {xs:List V} (hl:l=sl\/l=pl) (e:Kpt l H H') (hx:H l=some (.lst xs)) (h:StM sl pl H q s):StM sl pl H' q s:=by
 obtain ⟨a,b,x,y,z,na,nb⟩:=h;refine ⟨a,b,e _ _ x (cY x hx (by intro z;cases z)),e _ _ y ?_,e _ _ z ?_,na,nb⟩
 . rcases hl with rfl|rfl
   . exact na.1
   . exact na.2
 . rcases hl with rfl|rfl
   . exact nb.1
   . exact nb.2
structure Iv (C O:Addr) (H:Hp) (l o wb pl t1 sl:Addr) (m:Int) (ps:List Addr) (rs:List Road) (D S:List (List Int × List Int)):Prop where
 hl:H l=some (.lst (ps.map V.ref))
 ro:RoadsAt H ps rs
 dk:DeskAt C O H o wb pl m t1 ps rs D
 st:∃ qs:List Addr,H sl=some (.lst (qs.map V.ref))/\Paired (StM sl pl H) qs S
 ne:sl≠pl/\l≠sl/\l≠pl
section
variable {C O:Addr} {H H':Hp} {l o wb pl t1 sl:Addr} {m:Int} {ps:List Addr} {rs:List Road} {D D' S S':List (List Int × List Int)} {s:List Int × List Int}
theorem Iv.same (e:Same H H') (h:Iv C O H l o wb pl t1 sl m ps rs D S):Iv C O H' l o wb pl t1 sl m ps rs D S :=
 ⟨e _ _ h.hl,RoadsAt.same e h.ro,h.dk.same e,let ⟨qs,h1,h2⟩:=h.st;⟨qs,e _ _ h1,Paired.imp' (fun q s ⟨a,b,x,y,z,n⟩=>⟨a,b,e _ _ x,e _ _ y,e _ _ z,n⟩) h2⟩,h.ne⟩
theorem Iv.kS {qs:List Addr} (h:Iv C O H l o wb pl t1 sl m ps rs D S) (e:Kpt sl H H') (h1:H' sl=some (.lst (qs.map V.ref))) (h2:Paired (StM sl pl H') qs S'):Iv C O H' l o wb pl t1 sl m ps rs D S':=by
 obtain ⟨qs0,g1,g2⟩:=h.st;exact ⟨e _ _ h.hl h.ne.2.1,Paired.imp' (fun q x z=>e _ _ z (cY z g1 (by intro z;cases z))) h.ro,h.dk.kpt e g1 (Ne.symm h.ne.1),⟨qs,h1,h2⟩,h.ne⟩
theorem Iv.kD (h:Iv C O H l o wb pl t1 sl m ps rs D S) (e:Kpt pl H H') (d:DeskAt C O H' o wb pl m t1 ps rs D'):Iv C O H' l o wb pl t1 sl m ps rs D' S:=by
 obtain ⟨qs0,g1,g2⟩:=h.dk.pa;obtain ⟨qs,h1,h2⟩:=h.st;exact ⟨e _ _ h.hl h.ne.2.2,Paired.imp' (fun q x z=>e _ _ z (cY z g1 (by intro z;cases z))) h.ro,d,⟨qs,e _ _ h1 h.ne.1,Paired.imp' (fun q s x=>StM.kpt (.inr rfl) e g1 x) h2⟩,h.ne⟩
theorem Iv.last (h:Iv C O H l o wb pl t1 sl m ps rs D (S++[s])):∃ (qs:List Addr) (q a b:Addr),H sl=some (.lst ((qs++[q]).map V.ref))/\Paired (StM sl pl H) qs S/\atI ((qs++[q]).map V.ref) (-1)=some (.ref q)/\H q=some (.tup [.ref a,.ref b])/\H a=some (.lst (s.1.map V.int))/\H b=some (.lst (s.2.map V.int))/\qs.length=S.length:=by
 obtain ⟨qs,h1,h2⟩:=h.st;obtain ⟨qs',q,rfl,h3,a,b,h4,h5,h6,_⟩:=vD h2;refine ⟨qs',q,a,b,h1,h3,?_,h4,h5,h6,Paired.length h3⟩;rw [List.map_append];exact IV _ _
end
def Rf:Dd->De
 | .put v n=>.put v n|.want v n=>.want v n|.step a b n=>.step a b n|.back v n=>.back [v,n]
theorem Ut (D:Dd):(Rf D).wd=D.wd:=by cases D <;> rfl
theorem Uv (D:Dd):(Rf D).ns=D.ns:=by cases D <;> rfl
theorem SI {m:Int} {rs:List Road} (g:Good m rs) {s s':List Int × List Int} {D:De} (e:bhe m rs s D=some s') (f1:aI m s.1=true) (f2:aI m s.2=true):aI m s'.1=true/\aI m s'.2=true:=by
 have l1:=dI f1;have l2:=dI f2;cases D with
 | put v n =>
   unfold bhe at e;by_cases z:(0<=v/\v<m)/\0<=n
   . simp only [if_pos z] at e;cases e;refine ⟨jm (by rw [List.length_set];exact l1) fun y hy=>?_,f2⟩;rcases List.mem_or_eq_of_mem_set hy with q|q
     . exact kP f1 y q
     . have:=QM (kP f1) v.toNat;omega
   . simp only [if_neg z] at e;cases e
 | want v n =>
   unfold bhe at e;by_cases z:(0<=v/\v<m)/\0<=n
   . simp only [if_pos z] at e;cases e;refine ⟨f1,jm (by rw [List.length_set];exact l2) fun y hy=>?_⟩;rcases List.mem_or_eq_of_mem_set hy with q|q
     . exact kP f2 y q
     . omega
   . simp only [if_neg z] at e;cases e
 | step a b n =>
   unfold bhe at e;by_cases z:cm m rs s.1 (a,b,n)=true
   . simp only [if_pos z] at e;cases e;exact ⟨jm (by rw [Dw];exact l1) (SR g l1 (kP f1) z),f2⟩
   . simp only [if_neg z] at e;cases e
 | back ns=>cases e
theorem IL {m:Int} {rs:List Road} {s s':List Int × List Int} {D:De} {past:Int} (e:bhe m rs s D=some s'):d3 m rs s past D="fine"/\D.Ok m/\¬ V.str D.wd=V.str "back":=by
 cases D with
 | put v n =>
   unfold bhe at e;by_cases z:(0<=v/\v<m)/\0<=n
   . refine ⟨?_,z,(sne (by decide +kernel):¬ V.str "put"=V.str "back")⟩;show (if ¬ (0<=v/\v<m) then _ else _)=_;rw [if_neg (fun q=>q z.1),if_neg (by omega)]
   . simp only [if_neg z] at e;cases e
 | want v n =>
   unfold bhe at e;by_cases z:(0<=v/\v<m)/\0<=n
   . refine ⟨?_,z,(sne (by decide +kernel):¬ V.str "want"=V.str "back")⟩;show (if ¬ (0<=v/\v<m) then _ else _)=_;rw [if_neg (fun q=>q z.1),if_neg (by omega)]
   . simp only [if_neg z] at e;cases e
 | step a b n =>
   unfold bhe at e;by_cases z:cm m rs s.1 (a,b,n)=true
   . exact ⟨if_pos z,trivial,(sne (by decide +kernel):¬ V.str "step"=V.str "back")⟩
   . simp only [if_neg z] at e;cases e
 | back ns=>cases e
abbrev cq:Stmt:=top 58
theorem iW:FnScope ["script","many","roads","desk","states","cell","deed","numbers","due"] ["script"] (aa cq):=FnScope.of (by kernel_rfl)
theorem vV:NmL (aa cq) "script":=.of (by kernel_rfl)
theorem fP:NmL (aa cq) "many":=.of (by kernel_rfl)
theorem gg:NmL (aa cq) "roads":=.of (by kernel_rfl)
theorem j9:NmL (aa cq) "desk":=.of (by kernel_rfl)
theorem cH:NmL (aa cq) "states":=.of (by kernel_rfl)
theorem m5:NmL (aa cq) "cell":=.of (by kernel_rfl)
theorem hZ:NmL (aa cq) "deed":=.of (by kernel_rfl)
theorem f8:NmL (aa cq) "numbers":=.of (by kernel_rfl)
theorem oU:NmL (aa cq) "due":=.of (by kernel_rfl)
theorem qg:NmG (aa cq) "_law_roads":=.of (by kernel_rfl)
theorem zn:NmG (aa cq) "Desk":=.of (by kernel_rfl)
theorem Bs:NmG (aa cq) "Web":=.of (by kernel_rfl)
theorem q9:NmG (aa cq) "_law_deed":=.of (by kernel_rfl)
theorem tW:NmG (aa cq) "_law_odd":=.of (by kernel_rfl)
theorem tm:NmG (aa cq) "_law_due":=.of (by kernel_rfl)
theorem jC:NmG (aa cq) "len":=.of (by kernel_rfl)
theorem qJ:NmG (aa cq) "_law_told":=.of (by kernel_rfl)
theorem oF:NmG (aa cq) "_law_behind":=.of (by kernel_rfl)
theorem iw:NmG (aa cq) "_law_same":=.of (by kernel_rfl)
theorem Ti (T:Txt K mg) (hq:aV (CXe P w)) {f:Addr} {fd:FuncData} (D:Df K mg "law" cq ["script"] f fd) {f_Desk___init__:Addr} {ku:FuncData} (F_Desk___init__:Fun K "__init__" "Desk.__init__" bx f_Desk___init__ ku) (b_Desk:Binds K ku ["self","web"] []) (Fx:Mk K T.Desk f_Desk___init__) (G_Desk_init:FnOk P w K mg base (CXe P w) 5 f_Desk___init__ ku ["self","web"] (ko T)) {f_Desk_deeds:Addr} {dX:FuncData} (F_Desk_deeds:Fun K "deeds" "Desk.deeds" cV f_Desk_deeds dX) (b_Desk_deeds:Binds K dX ["self"] []) (gf:Meth K T.Desk "deeds" f_Desk_deeds) (G_Desk_deeds:FnOk P w K mg base (CXe P w) 1 f_Desk_deeds dX ["self"] (nW T)) {f_Desk_laying:Addr} {bd:FuncData} (F_Desk_laying:Fun K "laying" "Desk.laying" ce f_Desk_laying bd) (b_Desk_laying:Binds K bd ["self"] []) (bU:Meth K T.Desk "laying" f_Desk_laying) (G_Desk_laying:FnOk P w K mg base (CXe P w) 1 f_Desk_laying bd ["self"] (gc T)) {f_Desk_wish:Addr} {bz:FuncData} (F_Desk_wish:Fun K "wish" "Desk.wish" cW f_Desk_wish bz) (b_Desk_wish:Binds K bz ["self"] []) (cG:Meth K T.Desk "wish" f_Desk_wish) (G_Desk_wish:FnOk P w K mg base (CXe P w) 1 f_Desk_wish bz ["self"] (iG T)) {f_Web___init__:Addr} {dl:FuncData} (F_Web___init__:Fun K "__init__" "Web.__init__" aQ f_Web___init__ dl) (b_Web:Binds K dl ["self","many","roads"] []) (yW:Mk K T.Web f_Web___init__) (G_Web_init:FnOk P w K mg base (CXe P w) 3 f_Web___init__ dl ["self","many","roads"] (iC T)) {cU:Addr} {gX:FuncData} (cB:Df K mg "_law_behind" aY ["roads","held","wish","deed","numbers"] cU gX) (G_law_behind:FnOk P w K mg base (CXe P w) 2 cU gX ["roads","held","wish","deed","numbers"] (ow T)) {gD:Addr} {zE:FuncData} (jE:Df K mg "_law_deed" bC ["cell","many","roads"] gD zE) (G_law_deed:FnOk P w K mg base (CXe P w) 1 gD zE ["cell","many","roads"] (zN T)) {iT:Addr} {AU:FuncData} (kY:Df K mg "_law_due" ck ["many","roads","state","past","deed","numbers"] iT AU) (G_law_due:FnOk P w K mg base (CXe P w) 3 iT AU ["many","roads","state","past","deed","numbers"] (B4 T)) {jl:Addr} {BF:FuncData} (kX:Df K mg "_law_odd" bD ["cell","many","roads"] jl BF) (G_law_odd:FnOk P w K mg base (CXe P w) 1 jl BF ["cell","many","roads"] (Bl T)) {fK:Addr} {yj:FuncData} (hW:Df K mg "_law_roads" aK ["script"] fK yj) (G_law_roads:FnOk P w K mg base (CXe P w) 2 fK yj ["script"] (yI T)) {gO:Addr} {zC:FuncData} (eh:Df K mg "_law_same" bQ ["found","due"] gO zC) (G_law_same:FnOk P w K mg base (CXe P w) 2 gO zC ["found","due"] (zG T)) {gG:Addr} {zA:FuncData} (ju:Df K mg "_law_told" bR ["desk","deed","numbers"] gG zA) (G_law_told:FnOk P w K mg base (CXe P w) 11 gG zA ["desk","deed","numbers"] (zy T)):FnOk P w K mg base (CXe P w) 12 f fd ["script"] (Ts T):=by
 refine D.F.okC iW (fun vs H Q E h=>?_) (fun cdv A outer s H vs Q E hr h=>?_)
 . obtain ⟨a,ns,rfl,_⟩:=h
   rfl
 . obtain ⟨a,ns,rfl,ha,hn,k⟩:=h;have hv:=hr.units;refine ⟨_,(ak (iL (aE G_law_roads (hr.mono (by decide)) qg.g hW.m hW.F.kp hW.b .nil (bH hq) (af (pvl 0 vV) aj) (hdb:=qg.d)) (jW (n:=2) rfl (aZ (aP (i:=1) iW.nd rfl (Or.inl fP.l)) (aZ (aP (i:=2) iW.nd rfl (Or.inl gg.l)) hG)))) (ak (aJ (i:=3) iW.nd rfl (Or.inl j9.l) (Cc Fx G_Desk_init (hr.mono (by decide)) zn.g T.T8 b_Desk .nil (bH hq) (af (Cc yW G_Web_init (hr.mono (by decide)) Bs.g T.RU b_Web .nil (bH hq) (af (pvl 1 fP) (af (pvl 2 gg) aj)) (hdb:=Bs.d)) aj) (hdb:=zn.d))) (ak (aJ (i:=4) iW.nd rfl (Or.inl cH.l) (bE (af (dM (af (ao AV (bE (af ag aj)) (pvl 1 fP)) (af (ao AV (bE (af ag aj)) (pvl 1 fP)) aj))) aj))) (ak (je PassesOwn.never rfl (y4 (ao SO (bE (af ag aj)) (pvl 0 vV))) (aP (i:=5) iW.nd rfl (Or.inl m5.l)) (ak (iL (aE G_law_deed (hr.mono (by decide)) q9.g jE.m jE.F.kp jE.b .nil (bH hq) (af (ao aX (pvl 5 m5) ag) (af (pvl 1 fP) (af (pvl 2 gg) aj))) (hdb:=q9.d)) (jW (n:=2) rfl (aZ (aP (i:=6) iW.nd rfl (Or.inl hZ.l)) (aZ (aP (i:=7) iW.nd rfl (Or.inl f8.l)) hG)))) (ak (aR (ay bM (ao aO (pvl 5 m5) ag) ag (aD _)) (al (iL (aE G_law_odd (hr.mono (by decide)) tW.g kX.m kX.F.kp kX.b .nil (bH hq) (af (ao aX (pvl 5 m5) ag) (af (pvl 1 fP) (af (pvl 2 gg) aj))) (hdb:=tW.d)) (jW (n:=2) rfl (aZ (aP (i:=6) iW.nd rfl (Or.inl hZ.l)) (aZ (aP (i:=7) iW.nd rfl (Or.inl f8.l)) hG))))) aB) (ak (aJ (i:=8) iW.nd rfl (Or.inl oU.l) (aE G_law_due (hr.mono (by decide)) tm.g kY.m kY.F.kp kY.b .nil (bH hq) (af (pvl 1 fP) (af (pvl 2 gg) (af (au av (pvl 4 cH) (fX d6 ag) (fun _ _=>rfl)) (af (ao gS (ba bL jC.g T.len eN (af (pvl 4 cH) aj) (hn:=jC.n) (hdb:=jC.d)) ag) (af (pvl 6 hZ) (af (pvl 7 f8) aj)))))) (hdb:=tm.d))) (ak (aR (ay re (aE G_law_told (hr.mono (by decide)) qJ.g ju.m ju.F.kp ju.b .nil (bH hq) (af (pvl 3 j9) (af (pvl 6 hZ) (af (pvl 7 f8) aj))) (hdb:=qJ.d)) (pvl 8 oU) (aD _)) (al (aF lM)) aB) (ak (aR (PW.pt (lF (ay bM (pvl 8 oU) aN (aD _)) (jw (ay bM (pvl 6 hZ) aN (aD _))))) (al (bP (FZ PySem.F.plainAttrs_list PySem.F.slot_list_pop PySem.F.type_list_pop Fa (pvl 4 cH)))) (al (aR (ay bM (pvl 8 oU) aN (aD _)) (al (bP (lN PySem.F.plainAttrs_list PySem.F.slot_list_append PySem.F.type_list_append ft (pvl 4 cH) (af (aE G_law_behind (hr.mono (by decide)) oF.g cB.m cB.F.kp cB.b .nil (bH hq) (af (pvl 2 gg) (af (au bo (au av (pvl 4 cH) (fX d6 ag) (fun _ _=>rfl)) ag (fun _ _=>rfl)) (af (au bo (au av (pvl 4 cH) (fX d6 ag) (fun _ _=>rfl)) ag (fun _ _=>rfl)) (af (pvl 6 hZ) (af (pvl 7 f8) aj))))) (hdb:=oF.d)) aj)))) aB))) (ak (aR (PW.pt (oX (gn (gh (aE G_law_same (hr.mono (by decide)) iw.g eh.m eh.F.kp eh.b .nil (bH hq) (af (eT (pvl 3 j9) T.bp bU G_Desk_laying (hr.mono (by decide)) b_Desk_laying .nil (bH hq)) (af (au bo (au av (pvl 4 cH) (fX d6 ag) (fun _ _=>rfl)) ag (fun _ _=>rfl)) aj)) (hdb:=iw.d)))) (ni (gn (gh (aE G_law_same (hr.mono (by decide)) iw.g eh.m eh.F.kp eh.b .nil (bH hq) (af (eT (pvl 3 j9) T.bp cG G_Desk_wish (hr.mono (by decide)) b_Desk_wish .nil (bH hq)) (af (au bo (au av (pvl 4 cH) (fX d6 ag) (fun _ _=>rfl)) ag (fun _ _=>rfl)) aj)) (hdb:=iw.d))))))) (al (aF lM)) aB) (al (aR (ay re (eT (pvl 3 j9) T.bp gf G_Desk_deeds (hr.mono (by decide)) b_Desk_deeds .nil (bH hq)) (ao gS (ba bL jC.g T.len eN (af (pvl 4 cH) aj) (hn:=jC.n) (hdb:=jC.d)) ag) (aD _)) (al (aF lM)) aB))))))))) (al (aF lM)))))),?_⟩;rw [show L2.start ["script","many","roads","desk","states","cell","deed","numbers","due"] [V.ref a]=[some (V.ref a),none,none,none,none,none,none,none,none] from rfl];refine cs fun N1 h1=>?_;walk_at "rd";refine ⟨a,ns,rfl,ha,fun t l m ps rs H1 nt nl s1 et el ro g=>?_⟩;have m1:=g.m1;have m24:=g.m24;have mp:0<m:=by omega
   refine ⟨t,rfl,_,SqT.of et,rfl,_,_,rfl,_,_,rfl,rfl,h1 _ _ (cs fun N2 h2=>?_)⟩;walk_at "rd";refine OC T (c:=true) (SqL.of el) ro g fun x tw H2 hx htw s2 W=>?_;have s12:=s1.trans s2;have mkD:∀ {H':Hp} {Q':Addr->Hp->Prop},WebAt T.Web H' x m tw ps rs->(∀ (o wb pl t':Addr) (H'':Hp),H' o=none->H' pl=none->Same H' H''->DeskAt T.Web T.Desk H'' o wb pl m t' ps rs [(zrs m,zrs m)]->Q' o H'')->∀ y dx,H' y=none->H' dx=none->dx≠y->ko T [.ref y,.ref x] (upd (upd H' dx (.own y)) y (.ins T.Desk dx [])) (fun v H2=>v=.non/\Q' y H2) E0:=fun {H' Q'} W' q y dx hy hdx ne=>by
     have hy1:upd H' dx (.own y) y=none:=(by rw [aq ne.symm];exact hy);have t0:Same H' (upd (upd H' dx (.own y)) y (.ins T.Desk dx [])):=(Same.new _ hdx).trans (Same.new _ hy1);exact ⟨y,dx,x,tw,m,ps,rs,rfl,ah,W'.same t0,fun wb pl t' H'' hpl D kp=>⟨rfl,q y wb pl t' H'' hy (t0.free hpl) (fun b o e=>kp b o (t0 b o e) (bi e hy)) D⟩⟩
   refine mkD W fun o wb pl t1 H4 no npl s3 D2=>h2 _ _ (cs fun N4 h4=>?_);have nlp:l≠pl:=fun z=>by rw [<- z,s2 _ _ el] at npl;cases npl
   have plH:H pl=none:=s12.free npl;have s14:=s12.trans s3;have el4:=(s2.trans s3) _ _ el;have ro4:=RoadsAt.same (s2.trans s3) ro;clear W mkD s12 s2 s3 el ro et;have zer:∀ {H':Hp} {Q':VK},(∀ p H'',H' p=none->Same H' H''->H'' p=some (.lst ((zrs m).map V.int))->Q' (.ref p) H'')->[V.int 0].length<=sizeLine/\∀ (p:Addr),H' p=none->rRep (V.ref p) (V.int m) (upd H' p (.lst [V.int 0])) Q':=fun {H' Q'} q=>⟨by decide,fun p np=>by
     have v1:=Same.new (.lst [V.int 0]) np;refine ⟨p,m,[V.int 0],rfl,rfl,ah,by omega,by omega,ax (by simp;omega),fun p2 np2=>?_⟩;rw [Gc,<- IY];exact q p2 _ (v1.free np2) (v1.trans (Same.new _ np2)) ah⟩
   have fz:aI m (zrs m)=true:=jm (by rw [Jh];omega) fun x hx=>by rw [(List.mem_replicate.mp hx).2];decide
   walk_at "rd";refine zer fun z1 H5 nz1 s5 e5=>zer fun z2 H6 nz2 s6 e6=>⟨ax (by simp),fun q0 nq0=>⟨ax (by simp),fun sl nsl=>?_⟩⟩;have s7:=Same.new (.tup [V.ref z1,V.ref z2]) nq0;have s8:=Same.new (.lst [V.ref q0]) nsl;have eq0:=s8 _ _ (ah (H:=H6) (a:=q0) (o:=.tup [V.ref z1,V.ref z2]));have esl:upd (upd H6 q0 (.tup [V.ref z1,V.ref z2])) sl (.lst [V.ref q0]) sl=some (.lst [V.ref q0]):=ah;have s78:=s7.trans s8;have s48:=s5.trans (s6.trans s78);have nsl6:=s7.free nsl;have nsl4:=(s5.trans s6).free nsl6;generalize upd (upd H6 q0 (.tup [V.ref z1,V.ref z2])) sl (.lst [V.ref q0])=H7 at eq0 esl s78 s48 ⊢;obtain ⟨qd,gd,_⟩:=D2.pa;have fne:∀ {p:Addr} {y:HO},H4 p=some y->p≠sl:=fun h z=>by rw [z,nsl4] at h;cases h
   have I7:Iv T.Web T.Desk H7 l o wb pl t1 sl m ps rs [(zrs m,zrs m)] [(zrs m,zrs m)]:=by
     refine ⟨s48 _ _ el4,RoadsAt.same s48 ro4,D2.same s48,⟨[q0],esl,.cons ⟨z1,z2,eq0,s78 _ _ (s6 _ _ e5),s78 _ _ e6,⟨?_,?_⟩,?_,?_⟩ .nil⟩,(fne gd).symm,fne el4,nlp⟩
     . exact fun z=>by rw [<- z,s6 _ _ e5] at nsl6;cases nsl6
     . exact fun z=>by rw [z,gd] at nz1;cases nz1
     . exact fun z=>by rw [<- z,e6] at nsl6;cases nsl6
     . exact fun z=>by rw [z,s5 _ _ gd] at nz2;cases nz2
   have sH7:=s14.trans s48;clear D2 el4 ro4 eq0 s78 s48 e5 e6;refine h4 _ _ (cs fun N6 h6=>?_);walk_at "rd";refine ⟨ax (by simp),fun p7 n7=>?_⟩;have t7:=Same.new (.lst [V.int 7]) n7;refine ⟨p7,a,[V.int 7],ns.map V.int,rfl,rfl,SqL.of ah,Same.seq (sH7.trans t7) ha,ax (by rw [List.length_map];exact Nat.le_trans (Nat.add_le_add (Nat.le_refl _) hn) (by decide)),fun lp nlp'=>?_⟩;have t8:=t7.trans (Same.new (.lst ([V.int 7]++ns.map V.int)) nlp');have elp:upd (upd H7 p7 (.lst [V.int 7])) lp (.lst ([V.int 7]++ns.map V.int)) lp=some (.lst ((7::ns).map V.int)):=ah;have nlp7:=t7.free nlp';generalize upd (upd H7 p7 (.lst [V.int 7])) lp (.lst ([V.int 7]++ns.map V.int))=Hs at t8 elp ⊢;have Is:=I7.same t8;have lsl:lp≠sl:=fun z=>by rw [z,esl] at nlp7;cases nlp7
   have lpl:lp≠pl:=fun z=>by
     obtain ⟨qd7,gd7,_⟩:=I7.dk.pa;rw [z,gd7] at nlp7;cases nlp7
   clear I7;refine ⟨lp,rfl,⟨_,SqL.of elp⟩,?_⟩;have fl1:∀ {zs:List Int},aI m zs=true->zs.length<=1000:=fun f=>by have:=dI f;omega
   have popS:∀ {H':Hp} {D S:List (List Int × List Int)} {s:List Int × List Int} {R:VK},Iv T.Web T.Desk H' l o wb pl t1 sl m ps rs D (S++[s])->(∀ y H'',Iv T.Web T.Desk H'' l o wb pl t1 sl m ps rs D S->Kpt sl H' H''->R y H'')->rPop (V.ref sl) [] H' R:=fun {H' D S s R} I q=>by
     obtain ⟨qs,q0,a',b',g1,g2,g3,g4,g5,g6,g7⟩:=I.last;have kp:Kpt sl H' (upd H' sl (.lst (qs.map V.ref))):=Kpt.refl.put _;refine ⟨sl,_,V.ref q0,rfl,rfl,g1,?_,?_⟩
     . rw [List.map_append,List.length_append,List.map_cons,List.map_nil,List.length_cons,List.length_nil,show (qs.map V.ref).length+(0+1) - 1=(qs.map V.ref).length by omega,List.getElem?_append_right (Nat.le_refl _),Nat.sub_self]
       rfl
     . rw [List.map_append,List.map_cons,List.map_nil,List.dropLast_concat];exact q _ _ (I.kS kp ah (Paired.imp' (fun q s x=>StM.kpt (.inl rfl) kp g1 x) g2)) kp
   have appS:∀ {H':Hp} {D S:List (List Int × List Int)} {s:List Int × List Int} {q0:Addr} {R:VK},Iv T.Web T.Desk H' l o wb pl t1 sl m ps rs D S->StM sl pl H' q0 s->S.length<=1000->(∀ y H'',Iv T.Web T.Desk H'' l o wb pl t1 sl m ps rs D (S++[s])->Kpt sl H' H''->R y H'')->rAppend (V.ref sl) [V.ref q0] H' R:=fun {H' D S s q0 R} I st sl' q=>by
     obtain ⟨qs,g1,g2⟩:=I.st;have kp:Kpt sl H' (upd H' sl (.lst (qs.map V.ref++[V.ref q0]))):=Kpt.refl.put _;refine ⟨sl,_,_,rfl,rfl,g1,ir (by rw [List.length_map,Paired.length g2];omega),?_⟩;exact q _ _ (I.kS (qs:=qs++[q0]) kp (by rw [ah,List.map_append];rfl) (Aw (StM.kpt (.inl rfl) kp g1 st) (Paired.imp' (fun q s x=>StM.kpt (.inl rfl) kp g1 x) g2))) kp
   refine Os (K:=K) (xs:=(7::ns).map V.int) (fun i σ H8=>H8 lp=some (.lst ((7::ns).map V.int))/\∃ (sts:List (List Int × List Int)) (v5 v6 v7 v8:Option V),Iv T.Web T.Desk H8 l o wb pl t1 sl m ps rs sts sts/\(∀ s∈sts,aI m s.1=true/\aI m s.2=true)/\sts≠[]/\sts.length<=i+1/\σ=[some (V.ref a),some (V.int m),some (V.ref l),some (V.ref o),some (V.ref sl),v5,v6,v7,v8]) ⟨elp,_,_,_,_,_,Is,(fun s hs=>by rw [List.mem_singleton.mp hs];exact ⟨fz,fz⟩),by simp,by simp,rfl⟩ (fun i σ H8 _ z=>SqL.of z.1) ?_ ?_
   . rintro i y σ H8 N BB hBB hN hy ⟨e8,sts,v5,v6,v7,v8,I8,ok8,ne8,len8,rfl⟩;have il:=(List.getElem?_eq_some_iff.mp hy).1;rw [List.length_map,List.length_cons] at il;rw [List.getElem?_map] at hy;obtain ⟨c,_,rfl⟩:=Option.map_eq_some_iff.mp hy;refine hBB _ _ (cs fun M1 k1=>?_);obtain ⟨qs8,g8,_⟩:=I8.st;obtain ⟨qd8,gd8,_⟩:=I8.dk.pa;walk_at "rd";refine ⟨⟨by decide,by decide⟩,l,c / 2,m,ps,rs,rfl,I8.hl,I8.ro,g,fun q b H9 D0 okD nb s9 eq eb=>⟨q,rfl,_,SqT.of eq,rfl,_,_,rfl,_,_,rfl,rfl,k1 _ _ (cs fun M2 k2=>?_)⟩⟩;have go:∀ (D':De) (b:Addr) (H9:Hp),Same H8 H9->b≠sl->b≠pl->H9 b=some (.lst (D'.ns.map V.int))->M2 [some (V.ref a),some (V.int m),some (V.ref l),some (V.ref o),some (V.ref sl),some (V.int c),some (V.str D'.wd),some (V.ref b),v8] H9:=fun D' b H9 s9 bsl bpl eb=>by
       have I9:=I8.same s9;have e9:=s9 _ _ e8;clear I8 e8 g8 gd8;refine k2 _ _ (cs fun M3 k3=>?_);walk_at "rd";obtain ⟨S,s,e⟩:=(List.eq_nil_or_concat sts).resolve_left ne8;rw [List.concat_eq_append] at e;subst e;have f:=ok8 s (by simp);have sl10:S.length<=500:=(by rw [List.length_append] at len8;simp at len8;omega);obtain ⟨qs,q0,a',b',g1,g2,g3,g4,g5,g6,g7⟩:=I9.last;refine ixL g1 g3 ⟨_,.inl (SqL.of g1),?_⟩;have ep:(((qs++[q0]).map V.ref).length:Int) - 1=(S.length:Int):=(by rw [List.length_map,List.length_append,List.length_cons,List.length_nil,g7];omega);rw [ep];refine ⟨l,q0,b,ps,rs,m,_,s,D',rfl,I9.hl,I9.ro,g,⟨a',b',g4,g5,g6⟩,eb,dI f.1,dI f.2,fun H10 s10=>k3 _ _ (cs fun M4 k4=>?_)⟩;have I10:=I9.same s10;have e10:=s10 _ _ e9;have eb10:=s10 _ _ eb;have m4:∀ (H11:Hp) (D1:List (List Int × List Int)),H11 lp=some (.lst ((7::ns).map V.int))->Iv T.Web T.Desk H11 l o wb pl t1 sl m ps rs D1 (S++[s])->H11 b=some (.lst (D'.ns.map V.int))->((d3 m rs s S.length D'≠"fine"/\D1=S++[s])\/(∃ ns',D'=.back ns'/\d3 m rs s S.length D'="fine"/\S≠[]/\D1=S)\/(∃ s',bhe m rs s D'=some s'/\D1=S++[s]++[s']))->M4 [some (V.ref a),some (V.int m),some (V.ref l),some (V.ref o),some (V.ref sl),some (V.int c),some (V.str D'.wd),some (V.ref b),some (V.str (d3 m rs s S.length D'))] H11:=fun H11 D1 e11 I11 eb11 hD=>by
         refine k4 _ _ (cs fun M5 k5=>?_);have after:∀ (H12:Hp) (sts':List (List Int × List Int)),H12 lp=some (.lst ((7::ns).map V.int))->Iv T.Web T.Desk H12 l o wb pl t1 sl m ps rs sts' sts'->(∀ s∈sts',aI m s.1=true/\aI m s.2=true)->sts'≠[]->sts'.length<=i+2->M5 [some (V.ref a),some (V.int m),some (V.ref l),some (V.ref o),some (V.ref sl),some (V.int c),some (V.str D'.wd),some (V.ref b),some (V.str (d3 m rs s S.length D'))] H12:=fun H12 sts' e12 I12 ok12 ne12 len12=>by
           obtain ⟨S2,s2',e2⟩:=(List.eq_nil_or_concat sts').resolve_left ne12;rw [List.concat_eq_append] at e2;subst e2;have f2:=ok12 s2' (by simp);refine k5 _ _ (cs fun M6 k6=>?_);walk_at "rd";obtain ⟨qs2,q2,a2,b2,h1,h2,h3,h4,h5,h6,h7⟩:=I12.last;refine I12.dk.meth ⟨o,wb,pl,t1,m,ps,rs,S2,s2',rfl,I12.dk,fun la hla=>ixL h1 h3 ⟨q2,_,0,_,rfl,rfl,SqT.of h4,rfl,?_⟩⟩;refine ⟨la,a2,true,s2'.1,rfl,hla,SqL.of h5,fl1 f2.1,fun H13 s13=>⟨_,rfl,?_⟩⟩;rw [if_neg (by decide)];have I13:=I12.same s13;refine I13.dk.meth ⟨o,wb,pl,t1,m,ps,rs,S2,s2',rfl,I13.dk,fun lb hlb=>ixL (s13 _ _ h1) h3 ⟨q2,_,1,_,rfl,rfl,SqT.of (s13 _ _ h4),rfl,?_⟩⟩;refine ⟨lb,b2,true,s2'.2,rfl,hlb,SqL.of (s13 _ _ h6),fl1 f2.2,fun H14 s14=>⟨_,rfl,?_⟩⟩;rw [if_neg (by decide)];have I14:=I13.same s14;refine k6 _ _ ?_;walk_at "rd";refine I14.dk.meth ⟨o,wb,pl,t1,m,ps,rs,_,rfl,I14.dk,?_⟩;refine ⟨_,.inl (SqL.of (s14 _ _ (s13 _ _ h1))),?_⟩;rw [List.length_map,List.length_append,List.length_append,h7];have fn:=hN _ _ ⟨s14 _ _ (s13 _ _ e12),_,some (V.int c),some (V.str D'.wd),some (V.ref b),some (V.str (d3 m rs s S.length D')),I14,ok12,ne12,len12,rfl⟩;refine ⟨rfl,?_⟩;rw [if_neg (fun z=>z rfl)];exact fn
         walk_at "rd";rcases hD with ⟨nf,rfl⟩|⟨ns',rfl,fi,Sne,rfl⟩|⟨s',es',rfl⟩
         . rw [if_neg (sne nf),if_neg (sne nf)];exact after H11 _ e11 I11 ok8 (by simp) (by omega)
         . rw [if_pos (congrArg V.str fi),if_pos (show V.str (De.back ns').wd=V.str (Str.ofString "back") from rfl)];obtain ⟨qs1,h1',_⟩:=I11.st;refine ⟨.inl ⟨rfl,_,SqL.of h1'⟩,popS I11 fun _ H12 I12 kp12=>?_⟩;exact after H12 _ (kp12 _ _ e11 lsl) I12 (fun z hz=>ok8 z (List.mem_append.mpr (.inl hz))) Sne (by rw [List.length_append] at len8;simp at len8;omega)
         . obtain ⟨fi,okD',nbk⟩:=IL (past:=S.length) es';rw [if_pos (congrArg V.str fi),if_neg nbk,if_pos (congrArg V.str fi)];obtain ⟨qs1,q1,a1,b1,j1,j2,j3,j4,j5,j6,j7⟩:=I11.last;refine ⟨.inl ⟨rfl,_,SqL.of j1⟩,?_⟩;refine ixL j1 j3 ⟨q1,_,0,_,rfl,rfl,SqT.of j4,rfl,ixL j1 j3 ⟨q1,_,1,_,rfl,rfl,SqT.of j4,rfl,?_⟩⟩;refine ⟨l,a1,b1,b,ps,rs,m,s,D',rfl,I11.hl,I11.ro,g,j5,j6,eb11,dI f.1,dI f.2,okD',fun z=>(by rw [es'] at z;cases z),fun s'' es'' q a2 b2 H12 s12 na2 nb2 e1 e2 e3=>?_⟩;rw [es'] at es'';cases es'';obtain ⟨qd1,hd',_⟩:=I11.dk.pa;have fr:∀ {p:Addr},H11 p=none->p≠sl/\p≠pl:=fun hp=>⟨fun z=>(by rw [z,j1] at hp;cases hp),fun z=>(by rw [z,hd'] at hp;cases hp)⟩;have I12:=I11.same s12;have bf:=SI g es' f.1 f.2;refine appS I12 ⟨a2,b2,e1,e2,e3,fr na2,fr nb2⟩ (by rw [List.length_append];simp;omega) fun _ H13 I13 kp13=>?_;refine after H13 _ (kp13 _ _ (s12 _ _ e11) lsl) I13 (fun z hz=>?_) (by simp) (by rw [List.length_append];simp at len8 ⊢;omega);rcases List.mem_append.mp hz with h|h
           . exact ok8 z h
           . rw [List.mem_singleton.mp h];exact bf
       walk_at "rd";have kpl:∀ {H11:Hp} {D1:List (List Int × List Int)},DeskAt T.Web T.Desk H11 o wb pl m t1 ps rs D1->Kpt pl H10 H11->H11 lp=some (.lst ((7::ns).map V.int))/\Iv T.Web T.Desk H11 l o wb pl t1 sl m ps rs D1 (S++[s])/\H11 b=some (.lst (D'.ns.map V.int)):=fun d kp=>⟨kp _ _ e10 lpl,I10.kD kp d,kp _ _ eb10 bpl⟩;refine ⟨o,wb,pl,t1,b,m,ps,rs,S,s,D',rfl,I10.dk,sl10,f.1,f.2,eb10,fun s' es' H11 D11 kp11=>?_,fun ns' eD Sne H11 D11 kp11=>?_,fun nf H11 s11=>?_⟩
       . have u:=kpl D11 kp11;have x4:=m4 H11 _ u.1 u.2.1 u.2.2 (.inr (.inr ⟨s',es',rfl⟩));obtain ⟨fi,_,_⟩:=IL (past:=S.length) es';refine ⟨rfl,?_⟩;rw [if_neg (fun z=>z (congrArg V.str fi.symm))];exact x4
       . have u:=kpl D11 kp11;have fi:d3 m rs s S.length D'="fine":=by
           rw [eD];exact if_pos (by have:=List.length_pos_iff.mpr Sne;omega)
         have x4:=m4 H11 _ u.1 u.2.1 u.2.2 (.inr (.inl ⟨ns',eD,fi,Sne,rfl⟩));refine ⟨rfl,?_⟩;rw [if_neg (fun z=>z (congrArg V.str fi.symm))];exact x4
       . have x4:=m4 H11 _ (s11 _ _ e10) (I10.same s11) (s11 _ _ eb10) (.inl ⟨nf,rfl⟩);refine ⟨rfl,?_⟩;rw [if_neg (fun z=>z rfl)];exact x4
     have fr8:∀ {p:Addr},H8 p=none->p≠sl/\p≠pl:=fun hp=>⟨fun z=>(by rw [z,g8] at hp;cases hp),fun z=>(by rw [z,gd8] at hp;cases hp)⟩;walk_at "rd";refine ⟨by decide,?_⟩;by_cases c2:c % 2=1
     . rw [if_pos c2];have I9:=I8.same s9;refine ⟨⟨by decide,by decide⟩,l,c / 2,m,ps,rs,rfl,I9.hl,I9.ro,g,fun q1 b1 H10 D1 nb1 s10 eq1 eb1=>⟨q1,rfl,_,SqT.of eq1,rfl,_,_,rfl,_,_,rfl,rfl,?_⟩⟩;have fb:=fr8 (s9.free nb1);exact go D1 b1 H10 (s9.trans s10) fb.1 fb.2 eb1
     . rw [if_neg c2];have fb:=fr8 nb;have x:=go (Rf D0) b H9 s9 fb.1 fb.2 (by rw [Uv];exact eb);rw [Ut] at x;exact x
   . rintro BB σ H8 hBB ⟨e8,sts,v5,v6,v7,v8,I8,ok8,ne8,len8,rfl⟩;refine hBB _ _ (h6 _ _ ?_);walk_at "rd";exact k H8
end
theorem UT:aV CX0:=fun _ _ _ _ _ h=>h
theorem all_mk {l:PySem.W.OpenLaw} {w:World} {K:PySem.W.Frag} {h:Heap} {mg:Str->Option Value} {fa:Addr} {aU:Addr} {fM:Addr} {dQ:Addr} {eS:Addr} {cX:Addr} {dR:Addr} {eF:Addr} {dJ:Addr} {eA:Addr} {eM:Addr} {cP:Addr} {lf:Addr} {dh:Addr} {xc_TollError:Value} {xd_TollError:Option Addr} {xk_TollError:ClassData} {xs_TollError:Array (Option Value)} {xc_BadWeb:Value} {xd_BadWeb:Option Addr} {xk_BadWeb:ClassData} {xs_BadWeb:Array (Option Value)} {xc_NoPlace:Value} {xd_NoPlace:Option Addr} {xk_NoPlace:ClassData} {xs_NoPlace:Array (Option Value)} {qn_NoPlace qq_NoPlace:Str} {qN_NoPlace:Addr} {qb_NoPlace qm_NoPlace:List Value} {qh_NoPlace:Bool} {qs_NoPlace:List Str} {qu_NoPlace:List Value} {qa_NoPlace:Bool} {qc_NoPlace:Option Bool} {qd_NoPlace:Option Addr} {q0_NoPlace q1_NoPlace q2_NoPlace q3_NoPlace q5_NoPlace:Option Value} {xc_NoRoad:Value} {xd_NoRoad:Option Addr} {xk_NoRoad:ClassData} {xs_NoRoad:Array (Option Value)} {qn_NoRoad qq_NoRoad:Str} {qN_NoRoad:Addr} {qb_NoRoad qm_NoRoad:List Value} {qh_NoRoad:Bool} {qs_NoRoad:List Str} {qu_NoRoad:List Value} {qa_NoRoad:Bool} {qc_NoRoad:Option Bool} {qd_NoRoad:Option Addr} {q0_NoRoad q1_NoRoad q2_NoRoad q3_NoRoad q5_NoRoad:Option Value} {xc_BadLaying:Value} {xd_BadLaying:Option Addr} {xk_BadLaying:ClassData} {xs_BadLaying:Array (Option Value)} {qn_BadLaying qq_BadLaying:Str} {qN_BadLaying:Addr} {qb_BadLaying qm_BadLaying:List Value} {qh_BadLaying:Bool} {qs_BadLaying:List Str} {qu_BadLaying:List Value} {qa_BadLaying:Bool} {qc_BadLaying:Option Bool} {qd_BadLaying:Option Addr} {q0_BadLaying q1_BadLaying q2_BadLaying q3_BadLaying q5_BadLaying:Option Value} {xc_BadWish:Value} {xd_BadWish:Option Addr} {xk_BadWish:ClassData} {xs_BadWish:Array (Option Value)} {qn_BadWish qq_BadWish:Str} {qN_BadWish:Addr} {qb_BadWish qm_BadWish:List Value} {qh_BadWish:Bool} {qs_BadWish:List Str} {qu_BadWish:List Value} {qa_BadWish:Bool} {qc_BadWish:Option Bool} {qd_BadWish:Option Addr} {q0_BadWish q1_BadWish q2_BadWish q3_BadWish q5_BadWish:Option Value} {xc_TooMany:Value} {xd_TooMany:Option Addr} {xk_TooMany:ClassData} {xs_TooMany:Array (Option Value)} {xc_NoNumber:Value} {xd_NoNumber:Option Addr} {xk_NoNumber:ClassData} {xs_NoNumber:Array (Option Value)} {xc_NoWorst:Value} {xd_NoWorst:Option Addr} {xk_NoWorst:ClassData} {xs_NoWorst:Array (Option Value)} {xc_NoDeed:Value} {xd_NoDeed:Option Addr} {xk_NoDeed:ClassData} {xs_NoDeed:Array (Option Value)} {qn_NoDeed qq_NoDeed:Str} {qN_NoDeed:Addr} {qb_NoDeed qm_NoDeed:List Value} {qh_NoDeed:Bool} {qs_NoDeed:List Str} {qu_NoDeed:List Value} {qa_NoDeed:Bool} {qc_NoDeed:Option Bool} {qd_NoDeed:Option Addr} {q0_NoDeed q1_NoDeed q2_NoDeed q3_NoDeed q5_NoDeed:Option Value} {xc_BadStep:Value} {xd_BadStep:Option Addr} {xk_BadStep:ClassData} {xs_BadStep:Array (Option Value)} {qn_BadStep qq_BadStep:Str} {qN_BadStep:Addr} {qb_BadStep qm_BadStep:List Value} {qh_BadStep:Bool} {qs_BadStep:List Str} {qu_BadStep:List Value} {qa_BadStep:Bool} {qc_BadStep:Option Bool} {qd_BadStep:Option Addr} {q0_BadStep q1_BadStep q2_BadStep q3_BadStep q5_BadStep:Option Value} {dD:Addr} {od_check_counts BH:Option Addr} {BT:Array (Option Value)} {oc_check_counts Bn Bx BU qU B3:Value} {cK:Addr} {od_is_place Hj:Option Addr} {Iu:Array (Option Value)} {oc_is_place IB Ia HR zI Ht:Value} {eP:Addr} {od_check_ends D5:Option Addr} {DW:Array (Option Value)} {oc_check_ends DT Ej DQ vY Ey:Value} {cR:Addr} {od_other_ends Eb:Option Addr} {Eo:Array (Option Value)} {oc_other_ends DP Ev DZ wg Ee:Value} {dC:Addr} {od_check_joined A6:Option Addr} {Ba:Array (Option Value)} {oc_check_joined B6 Bu BM qM BD:Value} {dZ:Addr} {od_check_tolls Ci:Option Addr} {CJ:Array (Option Value)} {oc_check_tolls Co CZ CG tX CI:Value} {f_Web___init__:Addr} {od_Web___init__ BR:Option Addr} {Bt:Array (Option Value)} {oc_Web___init__ B0 BK Br qR Bh:Value} {fH:Addr} {od_law_tolls E1:Option Addr} {Fz:Array (Option Value)} {oc_law_tolls Fl Fy Gn wE GA:Value} {f_Desk___init__:Addr} {od_Desk___init__ zQ:Option Addr} {Aq:Array (Option Value)} {oc_Desk___init__ zX Au z9 pw zT:Value} {f_Desk_deeds:Addr} {od_Desk_deeds El:Option Addr} {D3:Array (Option Value)} {oc_Desk_deeds Eh DX Es vP DU:Value} {f_Desk_laying:Addr} {od_Desk_laying C0:Option Addr} {Cm:Array (Option Value)} {oc_Desk_laying Cq CM B9 tF CO:Value} {f_Desk_wish:Addr} {od_Desk_wish EU:Option Addr} {EW:Array (Option Value)} {oc_Desk_wish Fb FI Fw yh GJ:Value} {fJ:Addr} {od_law_price FN:Option Addr} {FC:Array (Option Value)} {oc_law_price Gk Gr Gx yy Gj:Value} {cU:Addr} {od_law_behind En:Option Addr} {Ek:Array (Option Value)} {oc_law_behind DV Ei Ed vS D4:Value} {gD:Addr} {od_law_deed Hr:Option Addr} {HX:Array (Option Value)} {oc_law_deed Hi HD IG zt Hu:Value} {iT:Addr} {od_law_due Ka:Option Addr} {Kb:Array (Option Value)} {oc_law_due JA K0 MU BN JS:Value} {jl:Addr} {od_law_odd Mq:Option Addr} {MO:Array (Option Value)} {oc_law_odd Jt Lj Lr Bq KB:Value} {gC:Addr} {od_law_cell Il:Option Addr} {HC:Array (Option Value)} {oc_law_cell Hy Ie He zu Ij:Value} {ja:Addr} {od_law_row J0:Option Addr} {JN:Array (Option Value)} {oc_law_row Mc LI JB BW JR:Value} {fK:Addr} {od_law_roads GW:Option Addr} {Gg:Array (Option Value)} {oc_law_roads GM GD F7 yr FF:Value} {fF:Addr} {od_law_whole FV:Option Addr} {Fr:Array (Option Value)} {oc_law_whole Fs E3 EN xF FY:Value} {gO:Addr} {od_law_same HM:Option Addr} {Hm:Array (Option Value)} {oc_law_same Ho Hv Ik zw HE:Value} {f_Desk_back:Addr} {od_Desk_back Fu:Option Addr} {GO:Array (Option Value)} {oc_Desk_back G8 E2 Gi xN FR:Value} {f_Desk_keep:Addr} {od_Desk_keep G6:Option Addr} {ES:Array (Option Value)} {oc_Desk_keep E4 FB E7 xx G4:Value} {be:Addr} {od_check_place CL:Option Addr} {C1:Array (Option Value)} {oc_check_place CH C5 Ct sZ CV:Value} {db:Addr} {od_is_filled Gf:Option Addr} {Gy:Array (Option Value)} {oc_is_filled GY Gs GH xL GL:Value} {df:Addr} {od_laying_of Fn:Option Addr} {FL:Array (Option Value)} {oc_laying_of F0 Gq GU wY Fe:Value} {uN:Addr} {od_put T3:Option Addr} {Tt:Array (Option Value)} {oc_put TJ Td Uk NH TD:Value} {ph:Addr} {od_pile Sz:Option Addr} {Sh:Array (Option Value)} {oc_pile Ss R9 SQ Je Sq:Value} {f_Desk_put:Addr} {od_Desk_put HU:Option Addr} {Hb:Array (Option Value)} {oc_Desk_put HK Ip HJ zH Hx:Value} {f_BadStep___init__:Addr} {od_BadStep___init__ wA:Option Addr} {wx:Array (Option Value)} {oc_BadStep___init__ ww wq wy mh wm:Value} {pU:Addr} {od_toll SS:Option Addr} {SG:Array (Option Value)} {oc_toll SU S6 Sr Jf SZ:Value} {gZ:Addr} {od_taken P5:Option Addr} {P9:Array (Option Value)} {oc_taken RE Qw QF GR Q2:Value} {kG:Addr} {od_behind NY:Option Addr} {Nb:Array (Option Value)} {oc_behind Ox Of NK Dh Nz:Value} {eO:Addr} {od_neighbours Ef:Option Addr} {Ec:Array (Option Value)} {oc_neighbours D6 Ep Em we Eu:Value} {iZ:Addr} {od_is_step Ll:Option Addr} {KW:Array (Option Value)} {oc_is_step Ml LR Mn Bf Lc:Value} {dY:Addr} {od_can_be_done CK:Option Addr} {C7:Array (Option Value)} {oc_can_be_done Cf Cb Cg sY Cr:Value} {jp:Addr} {od_layings KR:Option Addr} {K8:Array (Option Value)} {oc_layings Mb Lf Jn BL Lu:Value} {kq:Addr} {od_walked M7:Option Addr} {MY:Array (Option Value)} {oc_walked Nk NS Oy Ds Og:Value} {f_Desk_step:Addr} {od_Desk_step Fq:Option Addr} {E8:Array (Option Value)} {oc_Desk_step F4 Gd FT xk FX:Value} {iK:Addr} {od_wish_of Jm:Option Addr} {JQ:Array (Option Value)} {oc_wish_of JC Ly MJ A0 MI:Value} {f_Desk_want:Addr} {od_Desk_want FE:Option Addr} {Ga:Array (Option Value)} {oc_Desk_want EV Fc ET xH F9:Value} {kE:Addr} {od_law_do Nr:Option Addr} {Nx:Array (Option Value)} {oc_law_do Oc M9 Oo Dj OX:Value} {gL:Addr} {od_law_kind Im:Option Addr} {HP:Array (Option Value)} {oc_law_kind Iz HG HL zF HH:Value} {gG:Addr} {od_law_told HV:Option Addr} {Hg:Array (Option Value)} {oc_law_told Iq HZ Ih zj Ib:Value} {Ko:Addr} {od_law OO:Option Addr} {TZ:Array (Option Value)} {oc_law OH Na Ov Ff OJ:Value} {t_MOST_PLACES:Tok} {t_LEAST_TOLL:Tok} {t_MOST_TOLL:Tok} (X:K.In h) (G:h.Ns mainGlobals mg) (hfa:mg "law"=some (.ref fa))
   (qc:PySem.W.nsIn K mainGlobals "TollError"=some (some (.ref aU)))
   (yS:PySem.W.nsIn K mainGlobals "BadWeb"=some (some (.ref fM)))
   (vL:PySem.W.nsIn K mainGlobals "NoPlace"=some (some (.ref dQ)))
   (xi:PySem.W.nsIn K mainGlobals "NoRoad"=some (some (.ref eS)))
   (p9:PySem.W.nsIn K mainGlobals "BadLaying"=some (some (.ref cX)))
   (uv:PySem.W.nsIn K mainGlobals "BadWish"=some (some (.ref dR)))
   (uq:PySem.W.nsIn K mainGlobals "TooMany"=some (some (.ref eF)))
   (sv:PySem.W.nsIn K mainGlobals "NoNumber"=some (some (.ref dJ)))
   (vI:PySem.W.nsIn K mainGlobals "NoWorst"=some (some (.ref eA)))
   (yM:PySem.W.nsIn K mainGlobals "NoDeed"=some (some (.ref eM)))
   (uM:PySem.W.nsIn K mainGlobals "BadStep"=some (some (.ref cP)))
   (GG:PySem.W.nsIn K mainGlobals "Web"=some (some (.ref lf)))
   (C8:PySem.W.nsIn K mainGlobals "Desk"=some (some (.ref dh)))
   (qC:K.lookup aU=some ⟨xc_TollError,xd_TollError,.cls xk_TollError,xs_TollError⟩)
   (qw:xk_TollError.mro=.ref aU::bmV)
   (qk:PySem.W.typeIn K (.ref aU)=some (.type "type"))
   (pJ:PySem.W.findIn K (.ref aU) "__getattribute__"=some (some (.builtin "BaseException.__getattribute__")))
   (pf:PySem.W.findIn K (.ref aU) "__getattr__"=some none)
   (qB:PySem.W.findIn K (.ref aU) "__class__"=some (some (.builtin "object.__class__")))
   (qm:PySem.W.hasDictIn K aU=true)
   (yA:K.lookup fM=some ⟨xc_BadWeb,xd_BadWeb,.cls xk_BadWeb,xs_BadWeb⟩)
   (wK:xk_BadWeb.mro=.ref fM::.ref aU::bmV)
   (yb:PySem.W.typeIn K (.ref fM)=some (.type "type"))
   (yq:PySem.W.findIn K (.ref fM) "__getattribute__"=some (some (.builtin "BaseException.__getattribute__")))
   (yw:PySem.W.findIn K (.ref fM) "__getattr__"=some none)
   (xC:PySem.W.findIn K (.ref fM) "__class__"=some (some (.builtin "object.__class__")))
   (xB:PySem.W.hasDictIn K fM=true)
   (o7:K.lookup dQ=some ⟨xc_NoPlace,xd_NoPlace,.cls xk_NoPlace,xs_NoPlace⟩)
   (uY:xk_NoPlace.mro=.ref dQ::.ref aU::bmV)
   (vt:PySem.W.typeIn K (.ref dQ)=some (.type "type"))
   (vM:PySem.W.findIn K (.ref dQ) "__getattribute__"=some (some (.builtin "BaseException.__getattribute__")))
   (vq:PySem.W.findIn K (.ref dQ) "__getattr__"=some none)
   (ui:PySem.W.findIn K (.ref dQ) "__class__"=some (some (.builtin "object.__class__")))
   (uj:PySem.W.hasDictIn K dQ=true)
   (uR:(⟨xc_NoPlace,xd_NoPlace,.cls xk_NoPlace,xs_NoPlace⟩:Obj)=excClassObj qn_NoPlace qq_NoPlace dQ qN_NoPlace qb_NoPlace qm_NoPlace qh_NoPlace qs_NoPlace qu_NoPlace qa_NoPlace qc_NoPlace qd_NoPlace q0_NoPlace q1_NoPlace q2_NoPlace q3_NoPlace q5_NoPlace "ValueError.__new__")
   (vC:PySem.W.nsOkIn K qN_NoPlace=true)
   (vh:PySem.W.nsIn K qN_NoPlace "__init__"=some none)
   (vk:PySem.W.tailIn K bmV qm_NoPlace=true)
   (ra:K.lookup eS=some ⟨xc_NoRoad,xd_NoRoad,.cls xk_NoRoad,xs_NoRoad⟩)
   (yE:xk_NoRoad.mro=.ref eS::.ref aU::bmV)
   (xP:PySem.W.typeIn K (.ref eS)=some (.type "type"))
   (xA:PySem.W.findIn K (.ref eS) "__getattribute__"=some (some (.builtin "BaseException.__getattribute__")))
   (xt:PySem.W.findIn K (.ref eS) "__getattr__"=some none)
   (yf:PySem.W.findIn K (.ref eS) "__class__"=some (some (.builtin "object.__class__")))
   (wS:PySem.W.hasDictIn K eS=true)
   (yL:(⟨xc_NoRoad,xd_NoRoad,.cls xk_NoRoad,xs_NoRoad⟩:Obj)=excClassObj qn_NoRoad qq_NoRoad eS qN_NoRoad qb_NoRoad qm_NoRoad qh_NoRoad qs_NoRoad qu_NoRoad qa_NoRoad qc_NoRoad qd_NoRoad q0_NoRoad q1_NoRoad q2_NoRoad q3_NoRoad q5_NoRoad "ValueError.__new__")
   (yo:PySem.W.nsOkIn K qN_NoRoad=true)
   (xq:PySem.W.nsIn K qN_NoRoad "__init__"=some none)
   (wJ:PySem.W.tailIn K bmV qm_NoRoad=true)
   (ll:K.lookup cX=some ⟨xc_BadLaying,xd_BadLaying,.cls xk_BadLaying,xs_BadLaying⟩)
   (pN:xk_BadLaying.mro=.ref cX::.ref aU::bmV)
   (pI:PySem.W.typeIn K (.ref cX)=some (.type "type"))
   (pe:PySem.W.findIn K (.ref cX) "__getattribute__"=some (some (.builtin "BaseException.__getattribute__")))
   (qr:PySem.W.findIn K (.ref cX) "__getattr__"=some none)
   (qG:PySem.W.findIn K (.ref cX) "__class__"=some (some (.builtin "object.__class__")))
   (pM:PySem.W.hasDictIn K cX=true)
   (pZ:(⟨xc_BadLaying,xd_BadLaying,.cls xk_BadLaying,xs_BadLaying⟩:Obj)=excClassObj qn_BadLaying qq_BadLaying cX qN_BadLaying qb_BadLaying qm_BadLaying qh_BadLaying qs_BadLaying qu_BadLaying qa_BadLaying qc_BadLaying qd_BadLaying q0_BadLaying q1_BadLaying q2_BadLaying q3_BadLaying q5_BadLaying "ValueError.__new__")
   (pu:PySem.W.nsOkIn K qN_BadLaying=true)
   (p6:PySem.W.nsIn K qN_BadLaying "__init__"=some none)
   (pH:PySem.W.tailIn K bmV qm_BadLaying=true)
   (oY:K.lookup dR=some ⟨xc_BadWish,xd_BadWish,.cls xk_BadWish,xs_BadWish⟩)
   (vN:xk_BadWish.mro=.ref dR::.ref aU::bmV)
   (uf:PySem.W.typeIn K (.ref dR)=some (.type "type"))
   (vy:PySem.W.findIn K (.ref dR) "__getattribute__"=some (some (.builtin "BaseException.__getattribute__")))
   (uP:PySem.W.findIn K (.ref dR) "__getattr__"=some none)
   (uS:PySem.W.findIn K (.ref dR) "__class__"=some (some (.builtin "object.__class__")))
   (ug:PySem.W.hasDictIn K dR=true)
   (uW:(⟨xc_BadWish,xd_BadWish,.cls xk_BadWish,xs_BadWish⟩:Obj)=excClassObj qn_BadWish qq_BadWish dR qN_BadWish qb_BadWish qm_BadWish qh_BadWish qs_BadWish qu_BadWish qa_BadWish qc_BadWish qd_BadWish q0_BadWish q1_BadWish q2_BadWish q3_BadWish q5_BadWish "ValueError.__new__")
   (uZ:PySem.W.nsOkIn K qN_BadWish=true)
   (uT:PySem.W.nsIn K qN_BadWish "__init__"=some none)
   (vF:PySem.W.tailIn K bmV qm_BadWish=true)
   (vo:K.lookup eF=some ⟨xc_TooMany,xd_TooMany,.cls xk_TooMany,xs_TooMany⟩)
   (uy:xk_TooMany.mro=.ref eF::.ref aU::bmV)
   (uA:PySem.W.typeIn K (.ref eF)=some (.type "type"))
   (uO:PySem.W.findIn K (.ref eF) "__getattribute__"=some (some (.builtin "BaseException.__getattribute__")))
   (uB:PySem.W.findIn K (.ref eF) "__getattr__"=some none)
   (vB:PySem.W.findIn K (.ref eF) "__class__"=some (some (.builtin "object.__class__")))
   (tY:PySem.W.hasDictIn K eF=true)
   (sO:K.lookup dJ=some ⟨xc_NoNumber,xd_NoNumber,.cls xk_NoNumber,xs_NoNumber⟩)
   (rK:xk_NoNumber.mro=.ref dJ::.ref aU::bmV)
   (sE:PySem.W.typeIn K (.ref dJ)=some (.type "type"))
   (rH:PySem.W.findIn K (.ref dJ) "__getattribute__"=some (some (.builtin "BaseException.__getattribute__")))
   (sx:PySem.W.findIn K (.ref dJ) "__getattr__"=some none)
   (r9:PySem.W.findIn K (.ref dJ) "__class__"=some (some (.builtin "object.__class__")))
   (sS:PySem.W.hasDictIn K dJ=true)
   (vK:K.lookup eA=some ⟨xc_NoWorst,xd_NoWorst,.cls xk_NoWorst,xs_NoWorst⟩)
   (ue:xk_NoWorst.mro=.ref eA::.ref aU::bmV)
   (vA:PySem.W.typeIn K (.ref eA)=some (.type "type"))
   (uK:PySem.W.findIn K (.ref eA) "__getattribute__"=some (some (.builtin "BaseException.__getattribute__")))
   (uU:PySem.W.findIn K (.ref eA) "__getattr__"=some none)
   (vH:PySem.W.findIn K (.ref eA) "__class__"=some (some (.builtin "object.__class__")))
   (vc:PySem.W.hasDictIn K eA=true)
   (qV:K.lookup eM=some ⟨xc_NoDeed,xd_NoDeed,.cls xk_NoDeed,xs_NoDeed⟩)
   (yO:xk_NoDeed.mro=.ref eM::.ref aU::bmV)
   (ym:PySem.W.typeIn K (.ref eM)=some (.type "type"))
   (wL:PySem.W.findIn K (.ref eM) "__getattribute__"=some (some (.builtin "BaseException.__getattribute__")))
   (xX:PySem.W.findIn K (.ref eM) "__getattr__"=some none)
   (xa:PySem.W.findIn K (.ref eM) "__class__"=some (some (.builtin "object.__class__")))
   (xZ:PySem.W.hasDictIn K eM=true)
   (xp:(⟨xc_NoDeed,xd_NoDeed,.cls xk_NoDeed,xs_NoDeed⟩:Obj)=excClassObj qn_NoDeed qq_NoDeed eM qN_NoDeed qb_NoDeed qm_NoDeed qh_NoDeed qs_NoDeed qu_NoDeed qa_NoDeed qc_NoDeed qd_NoDeed q0_NoDeed q1_NoDeed q2_NoDeed q3_NoDeed q5_NoDeed "ValueError.__new__")
   (xR:PySem.W.nsOkIn K qN_NoDeed=true)
   (yF:PySem.W.nsIn K qN_NoDeed "__init__"=some none)
   (yP:PySem.W.tailIn K bmV qm_NoDeed=true)
   (lm:K.lookup cP=some ⟨xc_BadStep,xd_BadStep,.cls xk_BadStep,xs_BadStep⟩)
   (oP:xk_BadStep.mro=.ref cP::.ref aU::bmV)
   (uL:PySem.W.typeIn K (.ref cP)=some (.type "type"))
   (uh:PySem.W.findIn K (.ref cP) "__getattribute__"=some (some (.builtin "BaseException.__getattribute__")))
   (uX:PySem.W.findIn K (.ref cP) "__getattr__"=some none)
   (uH:PySem.W.findIn K (.ref cP) "__class__"=some (some (.builtin "object.__class__")))
   (oZ:PySem.W.hasDictIn K cP=true)
   (vb:(⟨xc_BadStep,xd_BadStep,.cls xk_BadStep,xs_BadStep⟩:Obj)=excClassObj qn_BadStep qq_BadStep cP qN_BadStep qb_BadStep qm_BadStep qh_BadStep qs_BadStep qu_BadStep qa_BadStep qc_BadStep qd_BadStep q0_BadStep q1_BadStep q2_BadStep q3_BadStep q5_BadStep "ValueError.__new__")
   (vE:PySem.W.nsOkIn K qN_BadStep=true)
   (uD:PySem.W.nsIn K qN_BadStep "__init__"=some (some (.ref f_BadStep___init__)))
   (u6:PySem.W.tailIn K bmV qm_BadStep=true)
   (pW:PySem.W.specialIn K (.ref aU) "__getattribute__"=some (some (.builtin "type.__getattribute__")))
   (qb:PySem.W.readsIn K aU (.type "type")=true)
   (pG:PySem.W.findCls K (.ref aU) (.type "type") "__init__"=some (.val (.builtin "ValueError.__init__")))
   (vg:PySem.W.findIn K (.ref cP) "__setattr__"=some (some (.builtin "object.__setattr__")))
   (o8:PySem.W.findIn K (.ref cP) "at"=some none)
   (xgs:PySem.W.specialIn K (.builtin "object.__class__") "__get__"=some (some (.builtin "getset_descriptor.__get__")))
   (xtk:PySem.W.takesIn K (.builtin "object.__class__")=some true)
   (xnd:[aU,fM,dQ,eS,cX,dR,eF,dJ,eA,eM,cP].Nodup)
   (mF:PySem.W.nsIn K mainGlobals "check_counts"=some (some (.ref dD)))
   (mI:K.lookup dD=some ⟨oc_check_counts,od_check_counts,.func (PySem.W.fnOf "check_counts" "check_counts" (az bw) (aw bw) (aa bw) .none Bn Bx BU BH qU B3),BT⟩)
   (ms:PySem.W.codeIn K qU "check_counts"=true)
   (mP:PySem.W.keepIn K (.ref dD)=true)
   (ut:PySem.W.nsIn K mainGlobals "is_place"=some (some (.ref cK)))
   (uC:K.lookup cK=some ⟨oc_is_place,od_is_place,.func (PySem.W.fnOf "is_place" "is_place" (az c6) (aw c6) (aa c6) .none IB Ia HR Hj zI Ht),Iu⟩)
   (vf:PySem.W.codeIn K zI "is_place"=true)
   (ub:PySem.W.keepIn K (.ref cK)=true)
   (qy:PySem.W.nsIn K mainGlobals "check_ends"=some (some (.ref eP)))
   (pd:K.lookup eP=some ⟨oc_check_ends,od_check_ends,.func (PySem.W.fnOf "check_ends" "check_ends" (az cc) (aw cc) (aa cc) .none DT Ej DQ D5 vY Ey),DW⟩)
   (qe:PySem.W.codeIn K vY "check_ends"=true)
   (pi:PySem.W.keepIn K (.ref eP)=true)
   (pS:PySem.W.nsIn K mainGlobals "other_ends"=some (some (.ref cR)))
   (qF:K.lookup cR=some ⟨oc_other_ends,od_other_ends,.func (PySem.W.fnOf "other_ends" "other_ends" (az bX) (aw bX) (aa bX) .none DP Ev DZ Eb wg Ee),Eo⟩)
   (pA:PySem.W.codeIn K wg "other_ends"=true)
   (qo:PySem.W.keepIn K (.ref cR)=true)
   (mR:PySem.W.nsIn K mainGlobals "check_joined"=some (some (.ref dC)))
   (mE:K.lookup dC=some ⟨oc_check_joined,od_check_joined,.func (PySem.W.fnOf "check_joined" "check_joined" (az aW) (aw aW) (aa aW) .none B6 Bu BM A6 qM BD),Ba⟩)
   (mD:PySem.W.codeIn K qM "check_joined"=true)
   (mO:PySem.W.keepIn K (.ref dC)=true)
   (ou:PySem.W.nsIn K mainGlobals "check_tolls"=some (some (.ref dZ)))
   (nO:K.lookup dZ=some ⟨oc_check_tolls,od_check_tolls,.func (PySem.W.fnOf "check_tolls" "check_tolls" (az bJ) (aw bJ) (aa bJ) .none Co CZ CG Ci tX CI),CJ⟩)
   (oj:PySem.W.codeIn K tX "check_tolls"=true)
   (nV:PySem.W.keepIn K (.ref dZ)=true)
   (mM:PySem.W.findIn K (.ref lf) "__init__"=some (some (.ref f_Web___init__)))
   (my:PySem.W.isFn K (.ref f_Web___init__)=true)
   (mB:K.lookup f_Web___init__=some ⟨oc_Web___init__,od_Web___init__,.func (PySem.W.fnOf "__init__" "Web.__init__" (az aQ) (aw aQ) (aa aQ) .none B0 BK Br BR qR Bh),Bt⟩)
   (mj:PySem.W.codeIn K qR "Web.__init__"=true)
   (mC:PySem.W.keepIn K (.ref f_Web___init__)=true)
   (sg:PySem.W.nsIn K mainGlobals "_law_tolls"=some (some (.ref fH)))
   (sQ:K.lookup fH=some ⟨oc_law_tolls,od_law_tolls,.func (PySem.W.fnOf "_law_tolls" "_law_tolls" (az cS) (aw cS) (aa cS) .none Fl Fy Gn E1 wE GA),Fz⟩)
   (sC:PySem.W.codeIn K wE "_law_tolls"=true)
   (se:PySem.W.keepIn K (.ref fH)=true)
   (lz:PySem.W.findIn K (.ref dh) "__init__"=some (some (.ref f_Desk___init__)))
   (lG:PySem.W.isFn K (.ref f_Desk___init__)=true)
   (l6:K.lookup f_Desk___init__=some ⟨oc_Desk___init__,od_Desk___init__,.func (PySem.W.fnOf "__init__" "Desk.__init__" (az bx) (aw bx) (aa bx) .none zX Au z9 zQ pw zT),Aq⟩)
   (ly:PySem.W.codeIn K pw "Desk.__init__"=true)
   (lV:PySem.W.keepIn K (.ref f_Desk___init__)=true)
   (qh:PySem.W.findIn K (.ref dh) "deeds"=some (some (.ref f_Desk_deeds)))
   (pR:PySem.W.isFn K (.ref f_Desk_deeds)=true)
   (qD:K.lookup f_Desk_deeds=some ⟨oc_Desk_deeds,od_Desk_deeds,.func (PySem.W.fnOf "deeds" "Desk.deeds" (az cV) (aw cV) (aa cV) .none Eh DX Es El vP DU),D3⟩)
   (pY:PySem.W.codeIn K vP "Desk.deeds"=true)
   (lw:PySem.W.keepIn K (.ref f_Desk_deeds)=true)
   (n9:PySem.W.findIn K (.ref dh) "laying"=some (some (.ref f_Desk_laying)))
   (om:PySem.W.isFn K (.ref f_Desk_laying)=true)
   (n8:K.lookup f_Desk_laying=some ⟨oc_Desk_laying,od_Desk_laying,.func (PySem.W.fnOf "laying" "Desk.laying" (az ce) (aw ce) (aa ce) .none Cq CM B9 C0 tF CO),Cm⟩)
   (nZ:PySem.W.codeIn K tF "Desk.laying"=true)
   (ke:PySem.W.keepIn K (.ref f_Desk_laying)=true)
   (rP:PySem.W.findIn K (.ref dh) "wish"=some (some (.ref f_Desk_wish)))
   (sK:PySem.W.isFn K (.ref f_Desk_wish)=true)
   (rX:K.lookup f_Desk_wish=some ⟨oc_Desk_wish,od_Desk_wish,.func (PySem.W.fnOf "wish" "Desk.wish" (az cW) (aw cW) (aa cW) .none Fb FI Fw EU yh GJ),EW⟩)
   (rz:PySem.W.codeIn K yh "Desk.wish"=true)
   (mZ:PySem.W.keepIn K (.ref f_Desk_wish)=true)
   (rZ:PySem.W.nsIn K mainGlobals "_law_price"=some (some (.ref fJ)))
   (rB:K.lookup fJ=some ⟨oc_law_price,od_law_price,.func (PySem.W.fnOf "_law_price" "_law_price" (az bO) (aw bO) (aa bO) .none Gk Gr Gx FN yy Gj),FC⟩)
   (sG:PySem.W.codeIn K yy "_law_price"=true)
   (rV:PySem.W.keepIn K (.ref fJ)=true)
   (pL:PySem.W.nsIn K mainGlobals "_law_behind"=some (some (.ref cU)))
   (qE:K.lookup cU=some ⟨oc_law_behind,od_law_behind,.func (PySem.W.fnOf "_law_behind" "_law_behind" (az aY) (aw aY) (aa aY) .none DV Ei Ed En vS D4),Ek⟩)
   (pq:PySem.W.codeIn K vS "_law_behind"=true)
   (pO:PySem.W.keepIn K (.ref cU)=true)
   (uk:PySem.W.nsIn K mainGlobals "_law_deed"=some (some (.ref gD)))
   (vx:K.lookup gD=some ⟨oc_law_deed,od_law_deed,.func (PySem.W.fnOf "_law_deed" "_law_deed" (az bC) (aw bC) (aa bC) .none Hi HD IG Hr zt Hu),HX⟩)
   (ve:PySem.W.codeIn K zt "_law_deed"=true)
   (uI:PySem.W.keepIn K (.ref gD)=true)
   (yN:PySem.W.nsIn K mainGlobals "_law_due"=some (some (.ref iT)))
   (xY:K.lookup iT=some ⟨oc_law_due,od_law_due,.func (PySem.W.fnOf "_law_due" "_law_due" (az ck) (aw ck) (aa ck) .none JA K0 MU Ka BN JS),Kb⟩)
   (yt:PySem.W.codeIn K BN "_law_due"=true)
   (yc:PySem.W.keepIn K (.ref iT)=true)
   (yB:PySem.W.nsIn K mainGlobals "_law_odd"=some (some (.ref jl)))
   (wP:K.lookup jl=some ⟨oc_law_odd,od_law_odd,.func (PySem.W.fnOf "_law_odd" "_law_odd" (az bD) (aw bD) (aa bD) .none Jt Lj Lr Mq Bq KB),MO⟩)
   (xS:PySem.W.codeIn K Bq "_law_odd"=true)
   (yd:PySem.W.keepIn K (.ref jl)=true)
   (uE:PySem.W.nsIn K mainGlobals "_law_cell"=some (some (.ref gC)))
   (uQ:K.lookup gC=some ⟨oc_law_cell,od_law_cell,.func (PySem.W.fnOf "_law_cell" "_law_cell" (az di) (aw di) (aa di) .none Hy Ie He Il zu Ij),HC⟩)
   (u7:PySem.W.codeIn K zu "_law_cell"=true)
   (vn:PySem.W.keepIn K (.ref gC)=true)
   (xn:PySem.W.nsIn K mainGlobals "_law_row"=some (some (.ref ja)))
   (yn:K.lookup ja=some ⟨oc_law_row,od_law_row,.func (PySem.W.fnOf "_law_row" "_law_row" (az b7) (aw b7) (aa b7) .none Mc LI JB J0 BW JR),JN⟩)
   (wQ:PySem.W.codeIn K BW "_law_row"=true)
   (wR:PySem.W.keepIn K (.ref ja)=true)
   (sR:PySem.W.nsIn K mainGlobals "_law_roads"=some (some (.ref fK)))
   (su:K.lookup fK=some ⟨oc_law_roads,od_law_roads,.func (PySem.W.fnOf "_law_roads" "_law_roads" (az aK) (aw aK) (aa aK) .none GM GD F7 GW yr FF),Gg⟩)
   (rJ:PySem.W.codeIn K yr "_law_roads"=true)
   (rp:PySem.W.keepIn K (.ref fK)=true)
   (sd:PySem.W.nsIn K mainGlobals "_law_whole"=some (some (.ref fF)))
   (sH:K.lookup fF=some ⟨oc_law_whole,od_law_whole,.func (PySem.W.fnOf "_law_whole" "_law_whole" (az cJ) (aw cJ) (aa cJ) .none Fs E3 EN FV xF FY),Fr⟩)
   (rM:PySem.W.codeIn K xF "_law_whole"=true)
   (sN:PySem.W.keepIn K (.ref fF)=true)
   (tZ:PySem.W.nsIn K mainGlobals "_law_same"=some (some (.ref gO)))
   (uJ:K.lookup gO=some ⟨oc_law_same,od_law_same,.func (PySem.W.fnOf "_law_same" "_law_same" (az bQ) (aw bQ) (aa bQ) .none Ho Hv Ik HM zw HE),Hm⟩)
   (t9:PySem.W.codeIn K zw "_law_same"=true)
   (vu:PySem.W.keepIn K (.ref gO)=true)
   (sj:PySem.W.findIn K (.ref dh) "back"=some (some (.ref f_Desk_back)))
   (sJ:PySem.W.isFn K (.ref f_Desk_back)=true)
   (rn:K.lookup f_Desk_back=some ⟨oc_Desk_back,od_Desk_back,.func (PySem.W.fnOf "back" "Desk.back" (az dH) (aw dH) (aa dH) .none G8 E2 Gi Fu xN FR),GO⟩)
   (sk:PySem.W.codeIn K xN "Desk.back"=true)
   (mU:PySem.W.keepIn K (.ref f_Desk_back)=true)
   (rC:PySem.W.findIn K (.ref dh) "keep"=some (some (.ref f_Desk_keep)))
   (rO:PySem.W.isFn K (.ref f_Desk_keep)=true)
   (sD:K.lookup f_Desk_keep=some ⟨oc_Desk_keep,od_Desk_keep,.func (PySem.W.fnOf "keep" "Desk.keep" (az cD) (aw cD) (aa cD) .none E4 FB E7 G6 xx G4),ES⟩)
   (rq:PySem.W.codeIn K xx "Desk.keep"=true)
   (mW:PySem.W.keepIn K (.ref f_Desk_keep)=true)
   (nS:PySem.W.nsIn K mainGlobals "check_place"=some (some (.ref be)))
   (nX:K.lookup be=some ⟨oc_check_place,od_check_place,.func (PySem.W.fnOf "check_place" "check_place" (az bj) (aw bj) (aa bj) .none CH C5 Ct CL sZ CV),C1⟩)
   (nP:PySem.W.codeIn K sZ "check_place"=true)
   (nM:PySem.W.keepIn K (.ref be)=true)
   (sB:PySem.W.nsIn K mainGlobals "is_filled"=some (some (.ref db)))
   (rG:K.lookup db=some ⟨oc_is_filled,od_is_filled,.func (PySem.W.fnOf "is_filled" "is_filled" (az cg) (aw cg) (aa cg) .none GY Gs GH Gf xL GL),Gy⟩)
   (rY:PySem.W.codeIn K xL "is_filled"=true)
   (rh:PySem.W.keepIn K (.ref db)=true)
   (rA:PySem.W.nsIn K mainGlobals "laying_of"=some (some (.ref df)))
   (sI:K.lookup df=some ⟨oc_laying_of,od_laying_of,.func (PySem.W.fnOf "laying_of" "laying_of" (az b4) (aw b4) (aa b4) .none F0 Gq GU Fn wY Fe),FL⟩)
   (si:PySem.W.codeIn K wY "laying_of"=true)
   (rm:PySem.W.keepIn K (.ref df)=true)
   (K2:PySem.W.nsIn K mainGlobals "put"=some (some (.ref uN)))
   (Kj:K.lookup uN=some ⟨oc_put,od_put,.func (PySem.W.fnOf "put" "put" (az fT) (aw fT) (aa fT) .none TJ Td Uk T3 NH TD),Tt⟩)
   (LJ:PySem.W.codeIn K NH "put"=true)
   (JT:PySem.W.keepIn K (.ref uN)=true)
   (GV:PySem.W.nsIn K mainGlobals "pile"=some (some (.ref ph)))
   (G7:K.lookup ph=some ⟨oc_pile,od_pile,.func (PySem.W.fnOf "pile" "pile" (az gQ) (aw gQ) (aa gQ) .none Ss R9 SQ Sz Je Sq),Sh⟩)
   (Gb:PySem.W.codeIn K Je "pile"=true)
   (F2:PySem.W.keepIn K (.ref ph)=true)
   (vd:PySem.W.findIn K (.ref dh) "put"=some (some (.ref f_Desk_put)))
   (vm:PySem.W.isFn K (.ref f_Desk_put)=true)
   (uG:K.lookup f_Desk_put=some ⟨oc_Desk_put,od_Desk_put,.func (PySem.W.fnOf "put" "Desk.put" (az cr) (aw cr) (aa cr) .none HK Ip HJ HU zH Hx),Hb⟩)
   (uu:PySem.W.codeIn K zH "Desk.put"=true)
   (oS:PySem.W.keepIn K (.ref f_Desk_put)=true)
   (nz:PySem.W.findIn K (.ref cP) "__init__"=some (some (.ref f_BadStep___init__)))
   (jf:PySem.W.isFn K (.ref f_BadStep___init__)=true)
   (iX:K.lookup f_BadStep___init__=some ⟨oc_BadStep___init__,od_BadStep___init__,.func (PySem.W.fnOf "__init__" "BadStep.__init__" (az bu) (aw bu) (aa bu) .none ww wq wy wA mh wm),wx⟩)
   (iV:PySem.W.codeIn K mh "BadStep.__init__"=true)
   (jg:PySem.W.keepIn K (.ref f_BadStep___init__)=true)
   (GP:PySem.W.nsIn K mainGlobals "toll"=some (some (.ref pU)))
   (EM:K.lookup pU=some ⟨oc_toll,od_toll,.func (PySem.W.fnOf "toll" "toll" (az dP) (aw dP) (aa dP) .none SU S6 Sr SS Jf SZ),SG⟩)
   (Fg:PySem.W.codeIn K Jf "toll"=true)
   (EZ:PySem.W.keepIn K (.ref pU)=true)
   (Cd:PySem.W.nsIn K mainGlobals "taken"=some (some (.ref gZ)))
   (CU:K.lookup gZ=some ⟨oc_taken,od_taken,.func (PySem.W.fnOf "taken" "taken" (az fc) (aw fc) (aa fc) .none RE Qw QF P5 GR Q2),P9⟩)
   (CB:PySem.W.codeIn K GR "taken"=true)
   (Cs:PySem.W.keepIn K (.ref gZ)=true)
   (AL:PySem.W.nsIn K mainGlobals "behind"=some (some (.ref kG)))
   (Aj:K.lookup kG=some ⟨oc_behind,od_behind,.func (PySem.W.fnOf "behind" "behind" (az c8) (aw c8) (aa c8) .none Ox Of NK NY Dh Nz),Nb⟩)
   (zY:PySem.W.codeIn K Dh "behind"=true)
   (AE:PySem.W.keepIn K (.ref kG)=true)
   (qA:PySem.W.nsIn K mainGlobals "neighbours"=some (some (.ref eO)))
   (pD:K.lookup eO=some ⟨oc_neighbours,od_neighbours,.func (PySem.W.fnOf "neighbours" "neighbours" (az bW) (aw bW) (aa bW) .none D6 Ep Em Ef we Eu),Ec⟩)
   (qj:PySem.W.codeIn K we "neighbours"=true)
   (pX:PySem.W.keepIn K (.ref eO)=true)
   (xj:PySem.W.nsIn K mainGlobals "is_step"=some (some (.ref iZ)))
   (yi:K.lookup iZ=some ⟨oc_is_step,od_is_step,.func (PySem.W.fnOf "is_step" "is_step" (az du) (aw du) (aa du) .none Ml LR Mn Ll Bf Lc),KW⟩)
   (ye:PySem.W.codeIn K Bf "is_step"=true)
   (yg:PySem.W.keepIn K (.ref iZ)=true)
   (og:PySem.W.nsIn K mainGlobals "can_be_done"=some (some (.ref dY)))
   (oh:K.lookup dY=some ⟨oc_can_be_done,od_can_be_done,.func (PySem.W.fnOf "can_be_done" "can_be_done" (az bK) (aw bK) (aa bK) .none Cf Cb Cg CK sY Cr),C7⟩)
   (nY:PySem.W.codeIn K sY "can_be_done"=true)
   (nN:PySem.W.keepIn K (.ref dY)=true)
   (yT:PySem.W.nsIn K mainGlobals "layings"=some (some (.ref jp)))
   (wU:K.lookup jp=some ⟨oc_layings,od_layings,.func (PySem.W.fnOf "layings" "layings" (az bN) (aw bN) (aa bN) .none Mb Lf Jn KR BL Lu),K8⟩)
   (yK:PySem.W.codeIn K BL "layings"=true)
   (wZ:PySem.W.keepIn K (.ref jp)=true)
   (Af:PySem.W.nsIn K mainGlobals "walked"=some (some (.ref kq)))
   (zU:K.lookup kq=some ⟨oc_walked,od_walked,.func (PySem.W.fnOf "walked" "walked" (az d4) (aw d4) (aa d4) .none Nk NS Oy M7 Ds Og),MY⟩)
   (Ag:PySem.W.codeIn K Ds "walked"=true)
   (AH:PySem.W.keepIn K (.ref kq)=true)
   (sA:PySem.W.findIn K (.ref dh) "step"=some (some (.ref f_Desk_step)))
   (sP:PySem.W.isFn K (.ref f_Desk_step)=true)
   (rQ:K.lookup f_Desk_step=some ⟨oc_Desk_step,od_Desk_step,.func (PySem.W.fnOf "step" "Desk.step" (az cF) (aw cF) (aa cF) .none F4 Gd FT Fq xk FX),E8⟩)
   (rj:PySem.W.codeIn K xk "Desk.step"=true)
   (mY:PySem.W.keepIn K (.ref f_Desk_step)=true)
   (yQ:PySem.W.nsIn K mainGlobals "wish_of"=some (some (.ref iK)))
   (wF:K.lookup iK=some ⟨oc_wish_of,od_wish_of,.func (PySem.W.fnOf "wish_of" "wish_of" (az c9) (aw c9) (aa c9) .none JC Ly MJ Jm A0 MI),JQ⟩)
   (xM:PySem.W.codeIn K A0 "wish_of"=true)
   (xW:PySem.W.keepIn K (.ref iK)=true)
   (sL:PySem.W.findIn K (.ref dh) "want"=some (some (.ref f_Desk_want)))
   (sM:PySem.W.isFn K (.ref f_Desk_want)=true)
   (rD:K.lookup f_Desk_want=some ⟨oc_Desk_want,od_Desk_want,.func (PySem.W.fnOf "want" "Desk.want" (az b3) (aw b3) (aa b3) .none EV Fc ET FE xH F9),Ga⟩)
   (sF:PySem.W.codeIn K xH "Desk.want"=true)
   (mV:PySem.W.keepIn K (.ref f_Desk_want)=true)
   (AD:PySem.W.nsIn K mainGlobals "_law_do"=some (some (.ref kE)))
   (AN:K.lookup kE=some ⟨oc_law_do,od_law_do,.func (PySem.W.fnOf "_law_do" "_law_do" (az eR) (aw eR) (aa eR) .none Oc M9 Oo Nr Dj OX),Nx⟩)
   (zS:PySem.W.codeIn K Dj "_law_do"=true)
   (zR:PySem.W.keepIn K (.ref kE)=true)
   (uw:PySem.W.nsIn K mainGlobals "_law_kind"=some (some (.ref gL)))
   (ur:K.lookup gL=some ⟨oc_law_kind,od_law_kind,.func (PySem.W.fnOf "_law_kind" "_law_kind" (az bc) (aw bc) (aa bc) .none Iz HG HL Im zF HH),HP⟩)
   (uo:PySem.W.codeIn K zF "_law_kind"=true)
   (vp:PySem.W.keepIn K (.ref gL)=true)
   (uV:PySem.W.nsIn K mainGlobals "_law_told"=some (some (.ref gG)))
   (ud:K.lookup gG=some ⟨oc_law_told,od_law_told,.func (PySem.W.fnOf "_law_told" "_law_told" (az bR) (aw bR) (aa bR) .none Iq HZ Ih HV zj Ib),Hg⟩)
   (uz:PySem.W.codeIn K zj "_law_told"=true)
   (va:PySem.W.keepIn K (.ref gG)=true)
   (EH:PySem.W.nsIn K mainGlobals "law"=some (some (.ref Ko)))
   (Kh:K.lookup Ko=some ⟨oc_law,od_law,.func (PySem.W.fnOf "law" "law" (az cq) (aw cq) (aa cq) .none OH Na Ov OO Ff OJ),TZ⟩)
   (LO:PySem.W.codeIn K Ff "law"=true)
   (Jq:PySem.W.keepIn K (.ref Ko)=true)
   (G5:PySem.W.plainGet K lf Str.empty=true)
   (FA:PySem.W.hasDictIn K lf=true)
   (FW:PySem.W.plainOver K lf=true)
   (GQ:PySem.W.findIn K (.ref lf) "__setattr__"=some (some (.builtin "object.__setattr__")))
   (GK:PySem.W.makesIn K lf=true)
   (Fj:PySem.W.keepIn K (.ref lf)=true)
   (n_many_Web:PySem.W.findIn K (.ref lf) "many"=some none)
   (n_roads_Web:PySem.W.findIn K (.ref lf) "roads"=some none)
   (Ce:PySem.W.plainGet K dh Str.empty=true)
   (Cw:PySem.W.hasDictIn K dh=true)
   (Ca:PySem.W.plainOver K dh=true)
   (CP:PySem.W.findIn K (.ref dh) "__setattr__"=some (some (.builtin "object.__setattr__")))
   (C3:PySem.W.makesIn K dh=true)
   (Cl:PySem.W.keepIn K (.ref dh)=true)
   (n_web_Desk:PySem.W.findIn K (.ref dh) "web"=some none)
   (n_past_Desk:PySem.W.findIn K (.ref dh) "past"=some none)
   (z_range:PySem.W.nsIn K mainGlobals "range"=some none)
   (z_zip:PySem.W.nsIn K mainGlobals "zip"=some none)
   (z_len:PySem.W.nsIn K mainGlobals "len"=some none)
   (z_isinstance:PySem.W.nsIn K mainGlobals "isinstance"=some none)
   (z_all:PySem.W.nsIn K mainGlobals "all"=some none)
   (z_int:PySem.W.nsIn K mainGlobals "int"=some none)
   (z_bool:PySem.W.nsIn K mainGlobals "bool"=some none)
   (z_tuple:PySem.W.nsIn K mainGlobals "tuple"=some none)
   (z_list:PySem.W.nsIn K mainGlobals "list"=some none)
   (z_sorted:PySem.W.nsIn K mainGlobals "sorted"=some none)
   (z_min:PySem.W.nsIn K mainGlobals "min"=some none)
   (z_enumerate:PySem.W.nsIn K mainGlobals "enumerate"=some none)
   (z_str:PySem.W.nsIn K mainGlobals "str"=some none)
   (z_ValueError:PySem.W.nsIn K mainGlobals "ValueError"=some none)
   (v_MOST_PLACES:PySem.W.nsIn K mainGlobals "MOST_PLACES"=some (some (.int 24 t_MOST_PLACES)))
   (v_LEAST_TOLL:PySem.W.nsIn K mainGlobals "LEAST_TOLL"=some (some (.int 2 t_LEAST_TOLL)))
   (v_MOST_TOLL:PySem.W.nsIn K mainGlobals "MOST_TOLL"=some (some (.int 1000000 t_MOST_TOLL))) :
   ∃ fd:FuncData,(∀ (s:Shared) (v:Value),BindsTo s fd ⟨[v],[]⟩ [("script",v)])/\∀ base:Heap,K.In base->base.Ns mainGlobals mg->FnOk l.prog w K mg base (CXe l.prog w) 12 fa fd ["script"] (EG K):=by
 have e:=hfa.symm.trans (PySem.W.mg_of X G EH);cases e
 let T:Txt K mg:=⟨aU,PySem.W.mg_of X G qc,fM,PySem.W.mg_of X G yS,dQ,PySem.W.mg_of X G vL,eS,PySem.W.mg_of X G xi,cX,PySem.W.mg_of X G p9,dR,PySem.W.mg_of X G uv,eF,PySem.W.mg_of X G uq,dJ,PySem.W.mg_of X G sv,eA,PySem.W.mg_of X G vI,eM,PySem.W.mg_of X G yM,cP,PySem.W.mg_of X G uM,lf,PySem.W.mg_of X G GG,dh,PySem.W.mg_of X G C8,Sx qk pJ pf qB xgs xtk qm qC qw,gY yb yq yw xC xgs xtk xB yA wK,gY vt vM vq ui xgs xtk uj o7 uY,tE _ _ _ _ _ _ _ _ _ _ _ _ _ _ _ _ o7 uR vC vh vk,gY xP xA xt yf xgs xtk wS ra yE,tE _ _ _ _ _ _ _ _ _ _ _ _ _ _ _ _ ra yL yo xq wJ,gY pI pe qr qG xgs xtk pM ll pN,tE _ _ _ _ _ _ _ _ _ _ _ _ _ _ _ _ ll pZ pu p6 pH,gY uf vy uP uS xgs xtk ug oY vN,tE _ _ _ _ _ _ _ _ _ _ _ _ _ _ _ _ oY uW uZ uT vF,gY uA uO uB vB xgs xtk tY vo uy,gY sE rH sx r9 xgs xtk sS sO rK,gY vA uK uU vH xgs xtk vc vK ue,gY ym wL xX xa xgs xtk xZ qV yO,tE _ _ _ _ _ _ _ _ _ _ _ _ _ _ _ _ qV xp xR yF yP,gY uL uh uX uH xgs xtk oZ lm oP,⟨pW,qb,pG⟩,SA lm oP oZ vg o8,o8,xnd,PySem.W.mg_none_of X G z_range,PySem.W.mg_none_of X G z_zip,PySem.W.mg_none_of X G z_len,PySem.W.mg_none_of X G z_isinstance,PySem.W.mg_none_of X G z_all,PySem.W.mg_none_of X G z_int,PySem.W.mg_none_of X G z_bool,PySem.W.mg_none_of X G z_tuple,PySem.W.mg_none_of X G z_list,PySem.W.mg_none_of X G z_sorted,PySem.W.mg_none_of X G z_min,PySem.W.mg_none_of X G z_enumerate,PySem.W.mg_none_of X G z_str,PySem.W.mg_none_of X G z_ValueError,⟨_,PySem.W.mg_of X G v_MOST_PLACES⟩,⟨_,PySem.W.mg_of X G v_LEAST_TOLL⟩,⟨_,PySem.W.mg_of X G v_MOST_TOLL⟩,⟨G5,FA,FW,GQ⟩,n_many_Web,n_roads_Web,⟨Ce,Cw,Ca,CP⟩,n_web_Desk,n_past_Desk⟩
 have F_check_counts:=aM (st:=bw) mI ms mP;have b_check_counts:=F_check_counts.binds (ps:=["many","roads"]) fun _ _ _ _ _ _ us hl=>by obtain ⟨u0,u1,rfl⟩:=us2 hl;rfl
 have eL:Df K mg "check_counts" bw ["many","roads"] dD _:=⟨F_check_counts,PySem.W.mg_of X G mF,b_check_counts⟩;have F_is_place:=aM (st:=c6) uC vf ub;have b_is_place:=F_is_place.binds (ps:=["many","number"]) fun _ _ _ _ _ _ us hl=>by obtain ⟨u0,u1,rfl⟩:=us2 hl;rfl
 have bq:Df K mg "is_place" c6 ["many","number"] cK _:=⟨F_is_place,PySem.W.mg_of X G ut,b_is_place⟩;have F_check_ends:=aM (st:=cc) pd qe pi;have b_check_ends:=F_check_ends.binds (ps:=["many","road"]) fun _ _ _ _ _ _ us hl=>by obtain ⟨u0,u1,rfl⟩:=us2 hl;rfl
 have f7:Df K mg "check_ends" cc ["many","road"] eP _:=⟨F_check_ends,PySem.W.mg_of X G qy,b_check_ends⟩;have F_other_ends:=aM (st:=bX) qF pA qo;have b_other_ends:=F_other_ends.binds (ps:=["roads","place"]) fun _ _ _ _ _ _ us hl=>by obtain ⟨u0,u1,rfl⟩:=us2 hl;rfl
 have cz:Df K mg "other_ends" bX ["roads","place"] cR _:=⟨F_other_ends,PySem.W.mg_of X G pS,b_other_ends⟩;have F_check_joined:=aM (st:=aW) mE mD mO;have b_check_joined:=F_check_joined.binds (ps:=["many","roads"]) fun _ _ _ _ _ _ us hl=>by obtain ⟨u0,u1,rfl⟩:=us2 hl;rfl
 have eJ:Df K mg "check_joined" aW ["many","roads"] dC _:=⟨F_check_joined,PySem.W.mg_of X G mR,b_check_joined⟩;have F_check_tolls:=aM (st:=bJ) nO oj nV;have b_check_tolls:=F_check_tolls.binds (ps:=["road"]) fun _ _ _ _ _ _ us hl=>by obtain ⟨u0,rfl⟩:=us1 hl;rfl
 have fe:Df K mg "check_tolls" bJ ["road"] dZ _:=⟨F_check_tolls,PySem.W.mg_of X G ou,b_check_tolls⟩;have F_Web___init__:=aM (st:=aQ) mB mj mC;have b_Web:=F_Web___init__.binds (ps:=["self","many","roads"]) fun _ _ _ _ _ _ us hl=>by obtain ⟨u0,u1,u2,rfl⟩:=us3 hl;rfl
 have F_law_tolls:=aM (st:=cS) sQ sC se;have b_law_tolls:=F_law_tolls.binds (ps:=["t"]) fun _ _ _ _ _ _ us hl=>by obtain ⟨u0,rfl⟩:=us1 hl;rfl
 have hU:Df K mg "_law_tolls" cS ["t"] fH _:=⟨F_law_tolls,PySem.W.mg_of X G sg,b_law_tolls⟩;have F_Desk___init__:=aM (st:=bx) l6 ly lV;have b_Desk:=F_Desk___init__.binds (ps:=["self","web"]) fun _ _ _ _ _ _ us hl=>by obtain ⟨u0,u1,rfl⟩:=us2 hl;rfl
 have F_Desk_deeds:=aM (st:=cV) qD pY lw;have b_Desk_deeds:=F_Desk_deeds.binds (ps:=["self"]) fun _ _ _ _ _ _ us hl=>by obtain ⟨u0,rfl⟩:=us1 hl;rfl
 have F_Desk_laying:=aM (st:=ce) n8 nZ ke;have b_Desk_laying:=F_Desk_laying.binds (ps:=["self"]) fun _ _ _ _ _ _ us hl=>by obtain ⟨u0,rfl⟩:=us1 hl;rfl
 have F_Desk_wish:=aM (st:=cW) rX rz mZ;have b_Desk_wish:=F_Desk_wish.binds (ps:=["self"]) fun _ _ _ _ _ _ us hl=>by obtain ⟨u0,rfl⟩:=us1 hl;rfl
 have F_law_price:=aM (st:=bO) rB sG rV;have b_law_price:=F_law_price.binds (ps:=["roads","a","b"]) fun _ _ _ _ _ _ us hl=>by obtain ⟨u0,u1,u2,rfl⟩:=us3 hl;rfl
 have g9:Df K mg "_law_price" bO ["roads","a","b"] fJ _:=⟨F_law_price,PySem.W.mg_of X G rZ,b_law_price⟩;have F_law_behind:=aM (st:=aY) qE pq pO;have b_law_behind:=F_law_behind.binds (ps:=["roads","held","wish","deed","numbers"]) fun _ _ _ _ _ _ us hl=>by obtain ⟨u0,u1,u2,u3,u4,rfl⟩:=us5 hl;rfl
 have cB:Df K mg "_law_behind" aY ["roads","held","wish","deed","numbers"] cU _:=⟨F_law_behind,PySem.W.mg_of X G pL,b_law_behind⟩;have F_law_deed:=aM (st:=bC) vx ve uI;have b_law_deed:=F_law_deed.binds (ps:=["cell","many","roads"]) fun _ _ _ _ _ _ us hl=>by obtain ⟨u0,u1,u2,rfl⟩:=us3 hl;rfl
 have jE:Df K mg "_law_deed" bC ["cell","many","roads"] gD _:=⟨F_law_deed,PySem.W.mg_of X G uk,b_law_deed⟩;have F_law_due:=aM (st:=ck) xY yt yc;have b_law_due:=F_law_due.binds (ps:=["many","roads","state","past","deed","numbers"]) fun _ _ _ _ _ _ us hl=>by obtain ⟨u0,u1,u2,u3,u4,u5,rfl⟩:=us6 hl;rfl
 have kY:Df K mg "_law_due" ck ["many","roads","state","past","deed","numbers"] iT _:=⟨F_law_due,PySem.W.mg_of X G yN,b_law_due⟩;have F_law_odd:=aM (st:=bD) wP xS yd;have b_law_odd:=F_law_odd.binds (ps:=["cell","many","roads"]) fun _ _ _ _ _ _ us hl=>by obtain ⟨u0,u1,u2,rfl⟩:=us3 hl;rfl
 have kX:Df K mg "_law_odd" bD ["cell","many","roads"] jl _:=⟨F_law_odd,PySem.W.mg_of X G yB,b_law_odd⟩;have F_law_cell:=aM (st:=di) uQ u7 vn;have b_law_cell:=F_law_cell.binds (ps:=["script","k"]) fun _ _ _ _ _ _ us hl=>by obtain ⟨u0,u1,rfl⟩:=us2 hl;rfl
 have cZ:Df K mg "_law_cell" di ["script","k"] gC _:=⟨F_law_cell,PySem.W.mg_of X G uE,b_law_cell⟩;have F_law_row:=aM (st:=b7) yn wQ wR;have b_law_row:=F_law_row.binds (ps:=["cell","mode","many","base"]) fun _ _ _ _ _ _ us hl=>by obtain ⟨u0,u1,u2,u3,rfl⟩:=us4 hl;rfl
 have fj:Df K mg "_law_row" b7 ["cell","mode","many","base"] ja _:=⟨F_law_row,PySem.W.mg_of X G xn,b_law_row⟩;have F_law_roads:=aM (st:=aK) su rJ rp;have b_law_roads:=F_law_roads.binds (ps:=["script"]) fun _ _ _ _ _ _ us hl=>by obtain ⟨u0,rfl⟩:=us1 hl;rfl
 have hW:Df K mg "_law_roads" aK ["script"] fK _:=⟨F_law_roads,PySem.W.mg_of X G sR,b_law_roads⟩;have F_law_whole:=aM (st:=cJ) sH rM sN;have b_law_whole:=F_law_whole.binds (ps:=["found"]) fun _ _ _ _ _ _ us hl=>by obtain ⟨u0,rfl⟩:=us1 hl;rfl
 have hX:Df K mg "_law_whole" cJ ["found"] fF _:=⟨F_law_whole,PySem.W.mg_of X G sd,b_law_whole⟩;have F_law_same:=aM (st:=bQ) uJ t9 vu;have b_law_same:=F_law_same.binds (ps:=["found","due"]) fun _ _ _ _ _ _ us hl=>by obtain ⟨u0,u1,rfl⟩:=us2 hl;rfl
 have eh:Df K mg "_law_same" bQ ["found","due"] gO _:=⟨F_law_same,PySem.W.mg_of X G tZ,b_law_same⟩;have F_Desk_back:=aM (st:=dH) rn sk mU;have b_Desk_back:=F_Desk_back.binds (ps:=["self"]) fun _ _ _ _ _ _ us hl=>by obtain ⟨u0,rfl⟩:=us1 hl;rfl
 have F_Desk_keep:=aM (st:=cD) sD rq mW;have b_Desk_keep:=F_Desk_keep.binds (ps:=["self","laying","wish"]) fun _ _ _ _ _ _ us hl=>by obtain ⟨u0,u1,u2,rfl⟩:=us3 hl;rfl
 have F_check_place:=aM (st:=bj) nX nP nM;have b_check_place:=F_check_place.binds (ps:=["web","number"]) fun _ _ _ _ _ _ us hl=>by obtain ⟨u0,u1,rfl⟩:=us2 hl;rfl
 have aH:Df K mg "check_place" bj ["web","number"] be _:=⟨F_check_place,PySem.W.mg_of X G nS,b_check_place⟩;have F_is_filled:=aM (st:=cg) rG rY rh;have b_is_filled:=F_is_filled.binds (ps:=["web","numbers"]) fun _ _ _ _ _ _ us hl=>by obtain ⟨u0,u1,rfl⟩:=us2 hl;rfl
 have cT:Df K mg "is_filled" cg ["web","numbers"] db _:=⟨F_is_filled,PySem.W.mg_of X G sB,b_is_filled⟩;have F_laying_of:=aM (st:=b4) sI si rm;have b_laying_of:=F_laying_of.binds (ps:=["web","numbers"]) fun _ _ _ _ _ _ us hl=>by obtain ⟨u0,u1,rfl⟩:=us2 hl;rfl
 have b5:Df K mg "laying_of" b4 ["web","numbers"] df _:=⟨F_laying_of,PySem.W.mg_of X G rA,b_laying_of⟩;have F_put:=aM (st:=fT) Kj LJ JT;have b_put:=F_put.binds (ps:=["web","laying","place","many"]) fun _ _ _ _ _ _ us hl=>by obtain ⟨u0,u1,u2,u3,rfl⟩:=us4 hl;rfl
 have y6:Df K mg "put" fT ["web","laying","place","many"] uN _:=⟨F_put,PySem.W.mg_of X G K2,b_put⟩;have F_pile:=aM (st:=gQ) G7 Gb F2;have b_pile:=F_pile.binds (ps:=["web","place","many"]) fun _ _ _ _ _ _ us hl=>by obtain ⟨u0,u1,u2,rfl⟩:=us3 hl;rfl
 have tR:Df K mg "pile" gQ ["web","place","many"] ph _:=⟨F_pile,PySem.W.mg_of X G GV,b_pile⟩;have F_Desk_put:=aM (st:=cr) uG uu oS;have b_Desk_put:=F_Desk_put.binds (ps:=["self","place","many"]) fun _ _ _ _ _ _ us hl=>by obtain ⟨u0,u1,u2,rfl⟩:=us3 hl;rfl
 have F_BadStep___init__:=aM (st:=bu) iX iV jg;have b_BadStep:=F_BadStep___init__.binds (ps:=["self","at"]) fun _ _ _ _ _ _ us hl=>by obtain ⟨u0,u1,rfl⟩:=us2 hl;rfl
 have F_toll:=aM (st:=dP) EM Fg EZ;have b_toll:=F_toll.binds (ps:=["web","a","b"]) fun _ _ _ _ _ _ us hl=>by obtain ⟨u0,u1,u2,rfl⟩:=us3 hl;rfl
 have tU:Df K mg "toll" dP ["web","a","b"] pU _:=⟨F_toll,PySem.W.mg_of X G GP,b_toll⟩;have F_taken:=aM (st:=fc) CU CB Cs;have b_taken:=F_taken.binds (ps:=["web","step"]) fun _ _ _ _ _ _ us hl=>by obtain ⟨u0,u1,rfl⟩:=us2 hl;rfl
 have gb:Df K mg "taken" fc ["web","step"] gZ _:=⟨F_taken,PySem.W.mg_of X G Cd,b_taken⟩;have F_behind:=aM (st:=c8) Aj zY AE;have b_behind:=F_behind.binds (ps:=["web","laying","step"]) fun _ _ _ _ _ _ us hl=>by obtain ⟨u0,u1,u2,rfl⟩:=us3 hl;rfl
 have mK:Df K mg "behind" c8 ["web","laying","step"] kG _:=⟨F_behind,PySem.W.mg_of X G AL,b_behind⟩;have F_neighbours:=aM (st:=bW) pD qj pX;have b_neighbours:=F_neighbours.binds (ps:=["web","a"]) fun _ _ _ _ _ _ us hl=>by obtain ⟨u0,u1,rfl⟩:=us2 hl;rfl
 have fY:Df K mg "neighbours" bW ["web","a"] eO _:=⟨F_neighbours,PySem.W.mg_of X G qA,b_neighbours⟩;have F_is_step:=aM (st:=du) yi ye yg;have b_is_step:=F_is_step.binds (ps:=["web","step"]) fun _ _ _ _ _ _ us hl=>by obtain ⟨u0,u1,rfl⟩:=us2 hl;rfl
 have kZ:Df K mg "is_step" du ["web","step"] iZ _:=⟨F_is_step,PySem.W.mg_of X G xj,b_is_step⟩;have F_can_be_done:=aM (st:=bK) oh nY nN;have b_can_be_done:=F_can_be_done.binds (ps:=["web","laying","step"]) fun _ _ _ _ _ _ us hl=>by obtain ⟨u0,u1,u2,rfl⟩:=us3 hl;rfl
 have eZ:Df K mg "can_be_done" bK ["web","laying","step"] dY _:=⟨F_can_be_done,PySem.W.mg_of X G og,b_can_be_done⟩;have F_layings:=aM (st:=bN) wU yK wZ;have b_layings:=F_layings.binds (ps:=["web","laying","steps"]) fun _ _ _ _ _ _ us hl=>by obtain ⟨u0,u1,u2,rfl⟩:=us3 hl;rfl
 have kQ:Df K mg "layings" bN ["web","laying","steps"] jp _:=⟨F_layings,PySem.W.mg_of X G yT,b_layings⟩;have F_walked:=aM (st:=d4) zU Ag AH;have b_walked:=F_walked.binds (ps:=["web","laying","steps"]) fun _ _ _ _ _ _ us hl=>by obtain ⟨u0,u1,u2,rfl⟩:=us3 hl;rfl
 have mq:Df K mg "walked" d4 ["web","laying","steps"] kq _:=⟨F_walked,PySem.W.mg_of X G Af,b_walked⟩;have F_Desk_step:=aM (st:=cF) rQ rj mY;have b_Desk_step:=F_Desk_step.binds (ps:=["self","a","b","times"]) fun _ _ _ _ _ _ us hl=>by obtain ⟨u0,u1,u2,u3,rfl⟩:=us4 hl;rfl
 have F_wish_of:=aM (st:=c9) wF xM xW;have b_wish_of:=F_wish_of.binds (ps:=["web","numbers"]) fun _ _ _ _ _ _ us hl=>by obtain ⟨u0,u1,rfl⟩:=us2 hl;rfl
 have kW:Df K mg "wish_of" c9 ["web","numbers"] iK _:=⟨F_wish_of,PySem.W.mg_of X G yQ,b_wish_of⟩;have F_Desk_want:=aM (st:=b3) rD sF mV;have b_Desk_want:=F_Desk_want.binds (ps:=["self","place","many"]) fun _ _ _ _ _ _ us hl=>by obtain ⟨u0,u1,u2,rfl⟩:=us3 hl;rfl
 have F_law_do:=aM (st:=eR) AN zS zR;have b_law_do:=F_law_do.binds (ps:=["desk","deed","numbers"]) fun _ _ _ _ _ _ us hl=>by obtain ⟨u0,u1,u2,rfl⟩:=us3 hl;rfl
 have mL:Df K mg "_law_do" eR ["desk","deed","numbers"] kE _:=⟨F_law_do,PySem.W.mg_of X G AD,b_law_do⟩;have F_law_kind:=aM (st:=bc) ur uo vp;have b_law_kind:=F_law_kind.binds (ps:=["e"]) fun _ _ _ _ _ _ us hl=>by obtain ⟨u0,rfl⟩:=us1 hl;rfl
 have jv:Df K mg "_law_kind" bc ["e"] gL _:=⟨F_law_kind,PySem.W.mg_of X G uw,b_law_kind⟩;have F_law_told:=aM (st:=bR) ud uz va;have b_law_told:=F_law_told.binds (ps:=["desk","deed","numbers"]) fun _ _ _ _ _ _ us hl=>by obtain ⟨u0,u1,u2,rfl⟩:=us3 hl;rfl
 have ju:Df K mg "_law_told" bR ["desk","deed","numbers"] gG _:=⟨F_law_told,PySem.W.mg_of X G uV,b_law_told⟩;have F_law:=aM (st:=cq) Kh LO Jq;have b_law:=F_law.binds (ps:=["script"]) fun _ _ _ _ _ _ us hl=>by obtain ⟨u0,rfl⟩:=us1 hl;rfl
 have Uq:Df K mg "law" cq ["script"] fa _:=⟨F_law,PySem.W.mg_of X G EH,b_law⟩;refine ⟨PySem.W.fnOf "law" "law" (az cq) (aw cq) (aa cq) .none OH Na Ov OO Ff OJ,fun s v=>.of_eq rfl,fun base _ _=>?_⟩;have yW:Mk K T.Web f_Web___init__:=⟨GK,mM,my,Fj⟩;have Fx:Mk K T.Desk f_Desk___init__:=⟨C3,lz,lG,Cl⟩;have gf:Meth K T.Desk "deeds" f_Desk_deeds:=⟨qh,pR,lw⟩;have bU:Meth K T.Desk "laying" f_Desk_laying:=⟨n9,om,ke⟩;have cG:Meth K T.Desk "wish" f_Desk_wish:=⟨rP,sK,mZ⟩;have rS:Meth K T.Desk "back" f_Desk_back:=⟨sj,sJ,mU⟩;have dG:Meth K T.Desk "keep" f_Desk_keep:=⟨rC,rO,mW⟩;have vG:Meth K T.Desk "put" f_Desk_put:=⟨vd,vm,oS⟩;have rN:Meth K T.Desk "step" f_Desk_step:=⟨sA,sP,mY⟩;have sT:Meth K T.Desk "want" f_Desk_want:=⟨sL,sM,mV⟩;have qO:y8 K T.BadStep f_BadStep___init__:=Ry _ _ _ _ _ _ _ _ _ _ _ _ _ _ _ _ lm vb vE uD u6 jf;have G_check_counts:=B8 (P:=l.prog) (w:=w) (base:=base) T aL eL;have G_is_place:=Hq (P:=l.prog) (w:=w) (base:=base) T aL bq;have G_check_ends:=D9 (P:=l.prog) (w:=w) (base:=base) T aL f7 bq G_is_place;have G_other_ends:=EA (P:=l.prog) (w:=w) (base:=base) T aL cz;have G_check_joined:=Bg (P:=l.prog) (w:=w) (base:=base) T aL eJ cz G_other_ends;have G_check_tolls:=CA (P:=l.prog) (w:=w) (base:=base) T aL fe;have G_Web_init:=Bj (P:=l.prog) (w:=w) (base:=base) T aL F_Web___init__ eL G_check_counts f7 G_check_ends eJ G_check_joined fe G_check_tolls;have G_law_tolls:=FH (P:=l.prog) (w:=w) (base:=base) T aL hU;have G_Desk_init:=Al (P:=l.prog) (w:=w) (base:=base) T aL F_Desk___init__ F_Web___init__ b_Web yW G_Web_init;have G_Desk_deeds:=Ex (P:=l.prog) (w:=w) (base:=base) T aL F_Desk_deeds;have G_Desk_laying:=CC (P:=l.prog) (w:=w) (base:=base) T aL F_Desk_laying;have G_Desk_wish:=F6 (P:=l.prog) (w:=w) (base:=base) T aL F_Desk_wish;have G_law_price:=GS (P:=l.prog) (w:=w) (base:=base) T aL g9;have G_law_behind:=Et (P:=l.prog) (w:=w) (base:=base) T aL cB g9 G_law_price;have G_law_deed:=IE (P:=l.prog) (w:=w) (base:=base) T aL jE;have G_law_due:=Lw (P:=l.prog) (w:=w) (base:=base) T aL kY cB G_law_behind;have G_law_odd:=LZ (P:=l.prog) (w:=w) (base:=base) T aL kX;have G_law_cell:=Iy (P:=l.prog) (w:=w) (base:=base) T aL cZ;have G_law_row:=Jz (P:=l.prog) (w:=w) (base:=base) T aL fj;have G_law_roads:=Gp (P:=l.prog) (w:=w) (base:=base) T aL hW cZ G_law_cell fj G_law_row hU G_law_tolls;have G_law_whole:=F3 (P:=l.prog) (w:=w) (base:=base) T aL hX;have G_law_same:=HS (P:=l.prog) (w:=w) (base:=base) T aL eh hX G_law_whole;have G_Desk_back:=Fp (P:=l.prog) (w:=w) (base:=base) T aL F_Desk_back F_Desk_deeds b_Desk_deeds gf G_Desk_deeds;have G_Desk_keep:=FP (P:=l.prog) (w:=w) (base:=base) T aL F_Desk_keep;have G_check_place:=Cp (P:=l.prog) (w:=w) (base:=base) T aL aH bq G_is_place;have G_is_filled:=E9 (P:=l.prog) (w:=w) (base:=base) T aL cT;have G_laying_of:=Fd (P:=l.prog) (w:=w) (base:=base) T aL b5 cT G_is_filled;have G_put:=Tc (P:=l.prog) (w:=w) (base:=base) T aL y6 aH G_check_place b5 G_laying_of;have G_pile:=Sy (P:=l.prog) (w:=w) (base:=base) T aL tR y6 G_put;have G_Desk_put:=HA (P:=l.prog) (w:=w) (base:=base) T aL F_Desk_put F_Desk_keep b_Desk_keep dG G_Desk_keep F_Desk_laying b_Desk_laying bU G_Desk_laying F_Desk_wish b_Desk_wish cG G_Desk_wish tR G_pile;have G_BadStep_init:=wz (P:=l.prog) (w:=w) (base:=base) T aL F_BadStep___init__;have G_toll:=S7 (P:=l.prog) (w:=w) (base:=base) T aL tU aH G_check_place;have G_taken:=RH (P:=l.prog) (w:=w) (base:=base) T aL gb tU G_toll;have G_behind:=Nf (P:=l.prog) (w:=w) (base:=base) T aL mK gb G_taken;have G_neighbours:=DR (P:=l.prog) (w:=w) (base:=base) T aL fY aH G_check_place cz G_other_ends;have G_is_step:=K3 (P:=l.prog) (w:=w) (base:=base) T aL kZ bq G_is_place fY G_neighbours;have G_can_be_done:=CY (P:=l.prog) (w:=w) (base:=base) T aL eZ kZ G_is_step gb G_taken;have G_layings:=My (P:=l.prog) (w:=w) (base:=base) T aL kQ F_BadStep___init__ b_BadStep qO G_BadStep_init mK G_behind eZ G_can_be_done b5 G_laying_of;have G_walked:=Ng (P:=l.prog) (w:=w) (base:=base) T aL mq kQ G_layings;have G_Desk_step:=GN (P:=l.prog) (w:=w) (base:=base) T aL F_Desk_step F_Desk_keep b_Desk_keep dG G_Desk_keep F_Desk_laying b_Desk_laying bU G_Desk_laying F_Desk_wish b_Desk_wish cG G_Desk_wish mq G_walked;have G_wish_of:=Kc (P:=l.prog) (w:=w) (base:=base) T aL kW cT G_is_filled;have G_Desk_want:=Fm (P:=l.prog) (w:=w) (base:=base) T aL F_Desk_want F_Desk_keep b_Desk_keep dG G_Desk_keep F_Desk_laying b_Desk_laying bU G_Desk_laying F_Desk_wish b_Desk_wish cG G_Desk_wish aH G_check_place kW G_wish_of;have G_law_do:=NM (P:=l.prog) (w:=w) (base:=base) T aL mL F_Desk_back b_Desk_back rS G_Desk_back F_Desk_put b_Desk_put vG G_Desk_put F_Desk_step b_Desk_step rN G_Desk_step F_Desk_want b_Desk_want sT G_Desk_want;have G_law_kind:=IA (P:=l.prog) (w:=w) (base:=base) T aL jv;have G_law_told:=Ha (P:=l.prog) (w:=w) (base:=base) T aL ju mL G_law_do jv G_law_kind;have G_law:=Ti (P:=l.prog) (w:=w) (base:=base) T aL Uq F_Desk___init__ b_Desk Fx G_Desk_init F_Desk_deeds b_Desk_deeds gf G_Desk_deeds F_Desk_laying b_Desk_laying bU G_Desk_laying F_Desk_wish b_Desk_wish cG G_Desk_wish F_Web___init__ b_Web yW G_Web_init cB G_law_behind jE G_law_deed kY G_law_due kX G_law_odd hW G_law_roads eh G_law_same ju G_law_told;exact G_law
theorem walk {l:PySem.W.OpenLaw} {q:Program} {loose:List Str} {XP:(Str->Option Value)->Heap->Prop} {YP:World->Heap->Prop} {d:DefRec} {K:Params->PySem.W.Frag} (hn:l.most=some 63) (hdf:d.params.defaults=[])
   (hY:∀ (w:World) (h:Heap),YP w h->(K w.params).In h)
   (F:∀ (w:World) (mg:Str->Option Value) (fa:Addr) (h:Heap),(K w.params).In h->h.Ns mainGlobals mg->mg d.name=some (.ref fa) ->
     ∃ fd:FuncData,(∀ (s:Shared) (u:Value),BindsTo s fd ⟨[u],[]⟩ [("script",u)])/\∀ base:Heap,(K w.params).In base->base.Ns mainGlobals mg->FnOk l.prog w (K w.params) mg base (CXe l.prog w) 12 fa fd ["script"] (EG (K w.params))) :
   PySem.W.WalkO q loose XP YP l.row.toRowW d [] (fun f vs=>PySem.call f vs) :=
 L2.walk_of (n:=63) (k:=12) (x:="script") (CX:=fun w=>(CXe l.prog w)) (sp:=fun w=>EG (K w.params)) hn (by decide) hdf ⟨rfl,by decide,by decide⟩ hY F (fun _ _ a ns hl _ hS=>⟨a,ns,rfl,hS,hl,fun _=>rfl⟩) fun _ _ _ _ _ z=>aL _ _ _ _ _ z
end Pk
open PySem PySem.W PyProof.Rows
set_option maxRecDepth 100000 in
set_option maxHeartbeats 0 in
theorem PySem.Challenge.cw_pebbletoll_k62_desk_deeds_refused_holds : PySem.Challenge.rw_pebbletoll_k62_desk_deeds_refused.Holds := by
 w_on;o_law
 refine PySem.W.holds_open (q:=Hd.qq) (loose:=[]) (Xt:=(fun s=>PySem.W.xlAt Hd.qq [] s && PySem.W.recOk (PySem.W.RowW.records (PySem.W.OpenRow.toRowW (PySem.Challenge.rw_pebbletoll_k62_desk_deeds_refused).row)) s)) (XP:=PySem.W.XL Hd.qq []) (Yf:=PySem.W.Hook.obs (PySem.W.kHook Hd.KK Hd.asK Hd.asK_eq)) (Ya:=PySem.W.Hook.val (PySem.W.kHook Hd.KK Hd.asK Hd.asK_eq)) (YP:=PySem.W.Hook.says (PySem.W.kHook Hd.KK Hd.asK Hd.asK_eq)) (N:=8774) Hd.left (PySem.W.Hook.of (PySem.W.kHook Hd.KK Hd.asK Hd.asK_eq)) (PySem.W.Hook.keeps (PySem.W.kHook Hd.KK Hd.asK Hd.asK_eq)) (fun s e=>PySem.W.xl_of s (Bool.and_eq_true_iff.mp e).1) PySem.W.XL.keeps (by rfl) (by rfl) (by rfl) (fun s e=>PySem.W.recFacts_of (Bool.and_eq_true_iff.mp e).2) (by rfl) (by assumption) (by decide +kernel) ⟨rfl,rfl,rfl,rfl,rfl,by decide +kernel⟩ ?hw ?hc
 (case hw=>w_witness2)
 k_fill
 refine Pk.walk (l:=PySem.Challenge.rw_pebbletoll_k62_desk_deeds_refused) rfl rfl (fun w h Y=>PySem.W.kIn_of Y) ?F
 case F =>
   intro w mg fa h KX G hmg;refine' Pk.all_mk KX G hmg ?qc ?yS ?vL ?xi ?p9 ?uv ?uq ?sv ?vI ?yM ?uM ?GG ?C8 ?qC ?qw ?qk ?pJ ?pf ?qB ?qm ?yA ?wK ?yb ?yq ?yw ?xC ?xB ?o7 ?uY ?vt ?vM ?vq ?ui ?uj ?uR ?vC ?vh ?vk ?ra ?yE ?xP ?xA ?xt ?yf ?wS ?yL ?yo ?xq ?wJ ?ll ?pN ?pI ?pe ?qr ?qG ?pM ?pZ ?pu ?p6 ?pH ?oY ?vN ?uf ?vy ?uP ?uS ?ug ?uW ?uZ ?uT ?vF ?vo ?uy ?uA ?uO ?uB ?vB ?tY ?sO ?rK ?sE ?rH ?sx ?r9 ?sS ?vK ?ue ?vA ?uK ?uU ?vH ?vc ?qV ?yO ?ym ?wL ?xX ?xa ?xZ ?xp ?xR ?yF ?yP ?lm ?oP ?uL ?uh ?uX ?uH ?oZ ?vb ?vE ?uD ?u6 ?pW ?qb ?pG ?vg ?o8 ?xgs ?xtk ?xnd ?mF ?mI ?ms ?mP ?ut ?uC ?vf ?ub ?qy ?pd ?qe ?pi ?pS ?qF ?pA ?qo ?mR ?mE ?mD ?mO ?ou ?nO ?oj ?nV ?mM ?my ?mB ?mj ?mC ?sg ?sQ ?sC ?se ?lz ?lG ?l6 ?ly ?lV ?qh ?pR ?qD ?pY ?lw ?n9 ?om ?n8 ?nZ ?ke ?rP ?sK ?rX ?rz ?mZ ?rZ ?rB ?sG ?rV ?pL ?qE ?pq ?pO ?uk ?vx ?ve ?uI ?yN ?xY ?yt ?yc ?yB ?wP ?xS ?yd ?uE ?uQ ?u7 ?vn ?xn ?yn ?wQ ?wR ?sR ?su ?rJ ?rp ?sd ?sH ?rM ?sN ?tZ ?uJ ?t9 ?vu ?sj ?sJ ?rn ?sk ?mU ?rC ?rO ?sD ?rq ?mW ?nS ?nX ?nP ?nM ?sB ?rG ?rY ?rh ?rA ?sI ?si ?rm ?K2 ?Kj ?LJ ?JT ?GV ?G7 ?Gb ?F2 ?vd ?vm ?uG ?uu ?oS ?nz ?jf ?iX ?iV ?jg ?GP ?EM ?Fg ?EZ ?Cd ?CU ?CB ?Cs ?AL ?Aj ?zY ?AE ?qA ?pD ?qj ?pX ?xj ?yi ?ye ?yg ?og ?oh ?nY ?nN ?yT ?wU ?yK ?wZ ?Af ?zU ?Ag ?AH ?sA ?sP ?rQ ?rj ?mY ?yQ ?wF ?xM ?xW ?sL ?sM ?rD ?sF ?mV ?AD ?AN ?zS ?zR ?uw ?ur ?uo ?vp ?uV ?ud ?uz ?va ?EH ?Kh ?LO ?Jq ?G5 ?FA ?FW ?GQ ?GK ?Fj ?n_many_Web ?n_roads_Web ?Ce ?Cw ?Ca ?CP ?C3 ?Cl ?n_web_Desk ?n_past_Desk ?z_range ?z_zip ?z_len ?z_isinstance ?z_all ?z_int ?z_bool ?z_tuple ?z_list ?z_sorted ?z_min ?z_enumerate ?z_str ?z_ValueError ?v_MOST_PLACES ?v_LEAST_TOLL ?v_MOST_TOLL
   (case qc=>k_is)
   (case yS=>k_is)
   (case vL=>k_is)
   (case xi=>k_is)
   (case p9=>k_is)
   (case uv=>k_is)
   (case uq=>k_is)
   (case sv=>k_is)
   (case vI=>k_is)
   (case yM=>k_is)
   (case uM=>k_is)
   (case GG=>k_is)
   (case C8=>k_is)
   (case qC=>k_is)
   (case qw=>rfl)
   (case qk=>k_is)
   (case pJ=>k_is)
   (case pf=>k_is)
   (case qB=>k_is)
   (case qm=>k_is)
   (case yA=>k_is)
   (case wK=>rfl)
   (case yb=>k_is)
   (case yq=>k_is)
   (case yw=>k_is)
   (case xC=>k_is)
   (case xB=>k_is)
   (case o7=>k_is)
   (case uY=>rfl)
   (case vt=>k_is)
   (case vM=>k_is)
   (case vq=>k_is)
   (case ui=>k_is)
   (case uj=>k_is)
   (case uR=>rfl)
   (case vC=>kernel_rfl)
   (case vh=>k_is)
   (case vk=>kernel_rfl)
   (case ra=>k_is)
   (case yE=>rfl)
   (case xP=>k_is)
   (case xA=>k_is)
   (case xt=>k_is)
   (case yf=>k_is)
   (case wS=>k_is)
   (case yL=>rfl)
   (case yo=>kernel_rfl)
   (case xq=>k_is)
   (case wJ=>kernel_rfl)
   (case ll=>k_is)
   (case pN=>rfl)
   (case pI=>k_is)
   (case pe=>k_is)
   (case qr=>k_is)
   (case qG=>k_is)
   (case pM=>k_is)
   (case pZ=>rfl)
   (case pu=>kernel_rfl)
   (case p6=>k_is)
   (case pH=>kernel_rfl)
   (case oY=>k_is)
   (case vN=>rfl)
   (case uf=>k_is)
   (case vy=>k_is)
   (case uP=>k_is)
   (case uS=>k_is)
   (case ug=>k_is)
   (case uW=>rfl)
   (case uZ=>kernel_rfl)
   (case uT=>k_is)
   (case vF=>kernel_rfl)
   (case vo=>k_is)
   (case uy=>rfl)
   (case uA=>k_is)
   (case uO=>k_is)
   (case uB=>k_is)
   (case vB=>k_is)
   (case tY=>k_is)
   (case sO=>k_is)
   (case rK=>rfl)
   (case sE=>k_is)
   (case rH=>k_is)
   (case sx=>k_is)
   (case r9=>k_is)
   (case sS=>k_is)
   (case vK=>k_is)
   (case ue=>rfl)
   (case vA=>k_is)
   (case uK=>k_is)
   (case uU=>k_is)
   (case vH=>k_is)
   (case vc=>k_is)
   (case qV=>k_is)
   (case yO=>rfl)
   (case ym=>k_is)
   (case wL=>k_is)
   (case xX=>k_is)
   (case xa=>k_is)
   (case xZ=>k_is)
   (case xp=>rfl)
   (case xR=>kernel_rfl)
   (case yF=>k_is)
   (case yP=>kernel_rfl)
   (case lm=>k_is)
   (case oP=>rfl)
   (case uL=>k_is)
   (case uh=>k_is)
   (case uX=>k_is)
   (case uH=>k_is)
   (case oZ=>k_is)
   (case vb=>rfl)
   (case vE=>kernel_rfl)
   (case uD=>k_is)
   (case u6=>kernel_rfl)
   (case pW=>k_is)
   (case qb=>k_is)
   (case pG=>k_is)
   (case vg=>k_is)
   (case o8=>k_is)
   (case xgs=>k_is)
   (case xtk=>k_is)
   (case xnd=>decide)
   (case mF=>k_is)
   (case mI=>k_is)
   (case ms=>k_is)
   (case mP=>k_is)
   (case ut=>k_is)
   (case uC=>k_is)
   (case vf=>k_is)
   (case ub=>k_is)
   (case qy=>k_is)
   (case pd=>k_is)
   (case qe=>k_is)
   (case pi=>k_is)
   (case pS=>k_is)
   (case qF=>k_is)
   (case pA=>k_is)
   (case qo=>k_is)
   (case mR=>k_is)
   (case mE=>k_is)
   (case mD=>k_is)
   (case mO=>k_is)
   (case ou=>k_is)
   (case nO=>k_is)
   (case oj=>k_is)
   (case nV=>k_is)
   (case mM=>k_is)
   (case my=>k_is)
   (case mB=>k_is)
   (case mj=>k_is)
   (case mC=>k_is)
   (case sg=>k_is)
   (case sQ=>k_is)
   (case sC=>k_is)
   (case se=>k_is)
   (case lz=>k_is)
   (case lG=>k_is)
   (case l6=>k_is)
   (case ly=>k_is)
   (case lV=>k_is)
   (case qh=>k_is)
   (case pR=>k_is)
   (case qD=>k_is)
   (case pY=>k_is)
   (case lw=>k_is)
   (case n9=>k_is)
   (case om=>k_is)
   (case n8=>k_is)
   (case nZ=>k_is)
   (case ke=>k_is)
   (case rP=>k_is)
   (case sK=>k_is)
   (case rX=>k_is)
   (case rz=>k_is)
   (case mZ=>k_is)
   (case rZ=>k_is)
   (case rB=>k_is)
   (case sG=>k_is)
   (case rV=>k_is)
   (case pL=>k_is)
   (case qE=>k_is)
   (case pq=>k_is)
   (case pO=>k_is)
   (case uk=>k_is)
   (case vx=>k_is)
   (case ve=>k_is)
   (case uI=>k_is)
   (case yN=>k_is)
   (case xY=>k_is)
   (case yt=>k_is)
   (case yc=>k_is)
   (case yB=>k_is)
   (case wP=>k_is)
   (case xS=>k_is)
   (case yd=>k_is)
   (case uE=>k_is)
   (case uQ=>k_is)
   (case u7=>k_is)
   (case vn=>k_is)
   (case xn=>k_is)
   (case yn=>k_is)
   (case wQ=>k_is)
   (case wR=>k_is)
   (case sR=>k_is)
   (case su=>k_is)
   (case rJ=>k_is)
   (case rp=>k_is)
   (case sd=>k_is)
   (case sH=>k_is)
   (case rM=>k_is)
   (case sN=>k_is)
   (case tZ=>k_is)
   (case uJ=>k_is)
   (case t9=>k_is)
   (case vu=>k_is)
   (case sj=>k_is)
   (case sJ=>k_is)
   (case rn=>k_is)
   (case sk=>k_is)
   (case mU=>k_is)
   (case rC=>k_is)
   (case rO=>k_is)
   (case sD=>k_is)
   (case rq=>k_is)
   (case mW=>k_is)
   (case nS=>k_is)
   (case nX=>k_is)
   (case nP=>k_is)
   (case nM=>k_is)
   (case sB=>k_is)
   (case rG=>k_is)
   (case rY=>k_is)
   (case rh=>k_is)
   (case rA=>k_is)
   (case sI=>k_is)
   (case si=>k_is)
   (case rm=>k_is)
   (case K2=>k_is)
   (case Kj=>k_is)
   (case LJ=>k_is)
   (case JT=>k_is)
   (case GV=>k_is)
   (case G7=>k_is)
   (case Gb=>k_is)
   (case F2=>k_is)
   (case vd=>k_is)
   (case vm=>k_is)
   (case uG=>k_is)
   (case uu=>k_is)
   (case oS=>k_is)
   (case nz=>k_is)
   (case jf=>k_is)
   (case iX=>k_is)
   (case iV=>k_is)
   (case jg=>k_is)
   (case GP=>k_is)
   (case EM=>k_is)
   (case Fg=>k_is)
   (case EZ=>k_is)
   (case Cd=>k_is)
   (case CU=>k_is)
   (case CB=>k_is)
   (case Cs=>k_is)
   (case AL=>k_is)
   (case Aj=>k_is)
   (case zY=>k_is)
   (case AE=>k_is)
   (case qA=>k_is)
   (case pD=>k_is)
   (case qj=>k_is)
   (case pX=>k_is)
   (case xj=>k_is)
   (case yi=>k_is)
   (case ye=>k_is)
   (case yg=>k_is)
   (case og=>k_is)
   (case oh=>k_is)
   (case nY=>k_is)
   (case nN=>k_is)
   (case yT=>k_is)
   (case wU=>k_is)
   (case yK=>k_is)
   (case wZ=>k_is)
   (case Af=>k_is)
   (case zU=>k_is)
   (case Ag=>k_is)
   (case AH=>k_is)
   (case sA=>k_is)
   (case sP=>k_is)
   (case rQ=>k_is)
   (case rj=>k_is)
   (case mY=>k_is)
   (case yQ=>k_is)
   (case wF=>k_is)
   (case xM=>k_is)
   (case xW=>k_is)
   (case sL=>k_is)
   (case sM=>k_is)
   (case rD=>k_is)
   (case sF=>k_is)
   (case mV=>k_is)
   (case AD=>k_is)
   (case AN=>k_is)
   (case zS=>k_is)
   (case zR=>k_is)
   (case uw=>k_is)
   (case ur=>k_is)
   (case uo=>k_is)
   (case vp=>k_is)
   (case uV=>k_is)
   (case ud=>k_is)
   (case uz=>k_is)
   (case va=>k_is)
   (case EH=>k_is)
   (case Kh=>k_is)
   (case LO=>k_is)
   (case Jq=>k_is)
   (case G5=>k_is)
   (case FA=>k_is)
   (case FW=>k_is)
   (case GQ=>k_is)
   (case GK=>k_is)
   (case Fj=>k_is)
   (case n_many_Web=>k_is)
   (case n_roads_Web=>k_is)
   (case Ce=>k_is)
   (case Cw=>k_is)
   (case Ca=>k_is)
   (case CP=>k_is)
   (case C3=>k_is)
   (case Cl=>k_is)
   (case n_web_Desk=>k_is)
   (case n_past_Desk=>k_is)
   (case z_range=>k_is)
   (case z_zip=>k_is)
   (case z_len=>k_is)
   (case z_isinstance=>k_is)
   (case z_all=>k_is)
   (case z_int=>k_is)
   (case z_bool=>k_is)
   (case z_tuple=>k_is)
   (case z_list=>k_is)
   (case z_sorted=>k_is)
   (case z_min=>k_is)
   (case z_enumerate=>k_is)
   (case z_str=>k_is)
   (case z_ValueError=>k_is)
   (case v_MOST_PLACES=>k_is)
   (case v_LEAST_TOLL=>k_is)
   (case v_MOST_TOLL=>k_is)
#print axioms PySem.Challenge.cw_pebbletoll_k62_desk_deeds_refused_holds