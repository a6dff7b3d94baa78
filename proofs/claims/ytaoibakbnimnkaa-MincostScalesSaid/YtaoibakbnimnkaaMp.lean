/- Package mincost as it landed: Valid and Cost (text Yk), Solve (Yl), Check (Ym). What gen/mp.txt lists is stated there. -/
import Derived.Test.YtaoibakbnimnkaaYl
import Derived.Test.YtaoibakbnimnkaaYm
import Derived.Test.YtaoibakbnimnkaaJW
